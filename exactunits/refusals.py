"""The refusals: each is an error that carries the one number it is answered with."""


class Refusal(Exception):
    """A call that can't be done; code is what is answered in its place."""

    def __init__(self, code):
        self.code = code


class OutOfRange(Refusal):
    """An argument lies outside its range."""

    def __init__(self):
        Refusal.__init__(self, -1)


class TooDeep(Refusal):
    """A bracket would be the 41st open one."""

    def __init__(self):
        Refusal.__init__(self, -2)


class UnknownName(Refusal):
    """A name in a text stands for nothing."""

    def __init__(self):
        Refusal.__init__(self, -3)


class DividedByZero(Refusal):
    """A quantity that is 0 would divide."""

    def __init__(self):
        Refusal.__init__(self, -4)


class NotAlike(Refusal):
    """Two quantities have other exponents."""

    def __init__(self):
        Refusal.__init__(self, -5)


class TooLarge(Refusal):
    """A result doesn't fit."""

    def __init__(self):
        Refusal.__init__(self, -6)


class NotAName(Refusal):
    """What is to be defined isn't formed like a name."""

    def __init__(self):
        Refusal.__init__(self, -7)


class UnitWord(Refusal):
    """What is to be defined is a unit's word."""

    def __init__(self):
        Refusal.__init__(self, -8)


class AlreadyDefined(Refusal):
    """What is to be defined is defined."""

    def __init__(self):
        Refusal.__init__(self, -9)


class TooManyNames(Refusal):
    """No further name can be defined."""

    def __init__(self):
        Refusal.__init__(self, -10)


class NotDefined(Refusal):
    """What is to be forgotten isn't defined."""

    def __init__(self):
        Refusal.__init__(self, -11)


class BelowZero(Refusal):
    """What is to be split is below 0."""

    def __init__(self):
        Refusal.__init__(self, -12)


class NotAboveZero(Refusal):
    """What is to be split into isn't above 0."""

    def __init__(self):
        Refusal.__init__(self, -13)


class NoUnit(Refusal):
    """No unit of the table is such as is asked for."""

    def __init__(self):
        Refusal.__init__(self, -14)


class TooLong(Refusal):
    """A text that's written again has too many bytes."""

    def __init__(self):
        Refusal.__init__(self, -15)


class CannotGoOn(Refusal):
    """A text's token at this place is the first that can't go on."""

    def __init__(self, place):
        Refusal.__init__(self, -1000 - place)
