"""The desk that calls come to: it keeps the names, and answers."""

from exactunits.layout import ADD_UP, CANON, COMPARE, DEFINE, DIMS, FORGET, SHOW, SORT, call_at, need_ranges
from exactunits.quantities import MOST_POWER, compared, multiplied_often, need_alike, plus
from exactunits.reading import read
from exactunits.refusals import AlreadyDefined, DividedByZero, NotAName, NotDefined, Refusal, TooManyNames, UnitWord
from exactunits.rounding import rounded
from exactunits.tokens import is_name
from exactunits.units import unit_table
from exactunits.working import worked_out
from exactunits.writing import one_text, places_text, text_answer

MOST_NAMES = 32


class NoSuchCall(Exception):
    """A call with a place that the desk doesn't know."""


class Desk:
    """What one list of calls is answered by."""

    def __init__(self):
        self.units = unit_table()
        # From each name's bytes to its quantity, in the order of defining.
        self.names = {}

    def answer(self, call):
        """The numbers that answer a call; a refusal is one number alone."""
        try:
            need_ranges(call)
            return self.answer_in_range(call)
        except Refusal as refusal:
            return [refusal.code]

    def answer_in_range(self, call):
        """The numbers that answer a call whose arguments lie in their ranges."""
        if call.place == CANON:
            return self.answer_canon(call.texts[0])
        if call.place == DIMS:
            return self.answer_dims(call.texts[0])
        if call.place == SHOW:
            return self.answer_show(call.texts[0], call.texts[1], call.numbers[0], call.numbers[1])
        if call.place == COMPARE:
            return self.answer_compare(call.texts[0], call.texts[1])
        if call.place == ADD_UP:
            return self.answer_sum(call.texts)
        if call.place == SORT:
            return self.answer_sort(call.texts)
        if call.place == DEFINE:
            return self.answer_define(tuple(call.texts[0]), call.texts[1])
        if call.place == FORGET:
            return self.answer_forget(tuple(call.texts[0]))
        raise NoSuchCall()

    def worth(self, text):
        """The quantity of a text; it's read whole before anything is worked out."""
        return worked_out(read(text), self.units, self.names)

    def answer_canon(self, text):
        """The one text of a text's quantity."""
        return text_answer(one_text(self.worth(text)))

    def answer_dims(self, text):
        """The exponents, moved so that none is below 0."""
        return [power + MOST_POWER for power in self.worth(text).powers]

    def answer_show(self, text, unit_text, places, way):
        """A quantity told in a unit."""
        quantity = self.worth(text)
        unit = self.worth(unit_text)
        need_alike(quantity, unit)
        if unit.top == 0:
            raise DividedByZero()
        top = quantity.top * unit.bottom * multiplied_often(10, places)
        bottom = quantity.bottom * unit.top
        if bottom < 0:
            top = -top
            bottom = -bottom
        return text_answer(places_text(rounded(top, bottom, way), places))

    def answer_compare(self, first_text, second_text):
        """Which of two quantities is more."""
        first = self.worth(first_text)
        second = self.worth(second_text)
        need_alike(first, second)
        order = compared(first, second)
        if order < 0:
            return [0]
        if order == 0:
            return [1]
        return [2]

    def answer_sum(self, texts):
        """The one text of the sum; all texts are worked out before any are added."""
        quantities = [self.worth(text) for text in texts]
        total = quantities[0]
        for quantity in quantities[1:]:
            total = plus(total, quantity)
        return text_answer(one_text(total))

    def answer_sort(self, texts):
        """The texts' places, as their quantities rise."""
        quantities = [self.worth(text) for text in texts]
        for quantity in quantities:
            need_alike(quantities[0], quantity)
        places = []
        for place, quantity in enumerate(quantities):
            # Of quantities that are the same the lesser place stays ahead: it came first.
            at = len(places)
            while at > 0 and compared(quantity, quantities[places[at - 1]]) < 0:
                at -= 1
            places.insert(at, place)
        return places

    def answer_define(self, word, text):
        """Lets a word stand for a text's quantity."""
        if not is_name(word):
            raise NotAName()
        if word in self.units:
            raise UnitWord()
        if word in self.names:
            raise AlreadyDefined()
        if len(self.names) == MOST_NAMES:
            raise TooManyNames()
        self.names[word] = self.worth(text)
        return [len(self.names)]

    def answer_forget(self, word):
        """Lets a word stand for nothing again."""
        if word not in self.names:
            raise NotDefined()
        self.names.pop(word)
        return [len(self.names)]


def answers(calls):
    """The answers to a list of calls on a new desk, each with how many numbers it has ahead of it."""
    desk = Desk()
    given = []
    start = 0
    while start < len(calls):
        call = call_at(calls, start)
        answer = desk.answer(call)
        given.append(len(answer))
        given.extend(answer)
        start = call.end
    return given
