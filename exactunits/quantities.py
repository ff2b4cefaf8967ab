"""Quantities, and the operations on them, exact and in lowest terms."""

from exactunits.refusals import DividedByZero, NotAlike, TooLarge

NO_POWERS = (0, 0, 0, 0, 0, 0)
MOST_POWER = 20


class Quantity:
    """The fraction top/bottom, in lowest terms, bottom above 0; and the exponents of m, kg, s, mol, K, A."""

    def __init__(self, top, bottom, powers):
        self.top = top
        self.bottom = bottom
        self.powers = powers


def common_divisor(first, second):
    """The greatest common divisor of two whole numbers, neither below 0."""
    while second > 0:
        rest = first % second
        first = second
        second = rest
    return first


def lowest(top, bottom, powers):
    """The quantity of any fraction whose bottom isn't 0."""
    divisor = common_divisor(abs(top), abs(bottom))
    if bottom < 0:
        divisor = -divisor
    return Quantity(top // divisor, bottom // divisor, powers)


def fits(quantity):
    """Whether both parts of the fraction and all exponents are small enough."""
    limit = 10 ** 40
    if abs(quantity.top) >= limit or quantity.bottom >= limit:
        return False
    return all([-MOST_POWER <= power <= MOST_POWER for power in quantity.powers])


def fitting(top, bottom, powers):
    """The quantity of a result; refused where it doesn't fit in lowest terms."""
    quantity = lowest(top, bottom, powers)
    if not fits(quantity):
        raise TooLarge()
    return quantity


def alike(left, right):
    """Whether two quantities have the same exponents."""
    return left.powers == right.powers


def need_alike(left, right):
    """Refuses two quantities that aren't alike."""
    if not alike(left, right):
        raise NotAlike()


def whole_number(number):
    """A whole number as a quantity without units."""
    return Quantity(number, 1, NO_POWERS)


def without_sign(quantity):
    """The quantity, turned to be 0 or above."""
    return Quantity(abs(quantity.top), quantity.bottom, quantity.powers)


def negative(quantity):
    """The quantity with its sign turned."""
    return Quantity(-quantity.top, quantity.bottom, quantity.powers)


def plus(left, right):
    """The sum of two quantities."""
    need_alike(left, right)
    top = left.top * right.bottom + right.top * left.bottom
    return fitting(top, left.bottom * right.bottom, left.powers)


def minus(left, right):
    """The difference of two quantities."""
    return plus(left, negative(right))


def times(left, right):
    """The product of two quantities."""
    powers = tuple([first + second for first, second in zip(left.powers, right.powers)])
    return fitting(left.top * right.top, left.bottom * right.bottom, powers)


def divided(left, right):
    """The quotient of two quantities."""
    if right.top == 0:
        raise DividedByZero()
    powers = tuple([first - second for first, second in zip(left.powers, right.powers)])
    return fitting(left.top * right.bottom, left.bottom * right.top, powers)


def how_often(quantity, unit):
    """How often a unit goes into a quantity that's alike: exactly, and nothing needs to fit."""
    need_alike(quantity, unit)
    if unit.top == 0:
        raise DividedByZero()
    return lowest(quantity.top * unit.bottom, quantity.bottom * unit.top, NO_POWERS)


def multiplied_often(base, often):
    """The whole number base, taken as a factor so often."""
    product = 1
    for step in range(often):
        product = product * base
    return product


def raised(quantity, exponent):
    """The power of a quantity, in one step: only the result has to fit."""
    if exponent == 0:
        return Quantity(1, 1, NO_POWERS)
    if exponent < 0 and quantity.top == 0:
        raise DividedByZero()
    top = multiplied_often(quantity.top, abs(exponent))
    bottom = multiplied_often(quantity.bottom, abs(exponent))
    powers = tuple([power * exponent for power in quantity.powers])
    if exponent < 0:
        return fitting(bottom, top, powers)
    return fitting(top, bottom, powers)


def compared(left, right):
    """Below 0, 0 or above 0 as left is less than, the same as or more than right, which is alike."""
    return left.top * right.bottom - right.top * left.bottom
