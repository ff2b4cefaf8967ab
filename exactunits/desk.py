"""The desk that calls come to: it keeps the names, and answers."""

from exactunits.choosing import handy_word, whole_word
from exactunits.layout import ADD_UP, CANON, COMPARE, DEFINE, DIMS, FORGET, SHOW, SORT, call_at, need_ranges
from exactunits.layout import HANDY, NAMES, NEAR, SPLIT, TIDY, WHAT, WHOLE
from exactunits.nearest import nearest_fraction
from exactunits.quantities import MOST_POWER, compared, how_often, need_alike, plus
from exactunits.reading import read
from exactunits.refusals import AlreadyDefined, NotAName, NotDefined, Refusal, TooManyNames, UnitWord
from exactunits.rewriting import tidied
from exactunits.splitting import less_units, need_split_unit, need_splittable, often_taken
from exactunits.tokens import is_name, text_bytes
from exactunits.units import unit_table
from exactunits.working import name_worth, unknown_names, worked_out
from exactunits.writing import bytes_answer, one_text, rounded_text, text_answer, words_answer

MOST_NAMES = 32


class Desk:
    """What one list of calls is answered by."""

    def __init__(self):
        self.units = unit_table()
        # From each name's bytes to its quantity, in the order of defining.
        self.names = {}

    def answer(self, call):
        """The numbers that answer a call; a refusal is one number alone."""
        try:
            need_ranges(call)
            return self.answer_in_range(call)
        except Refusal as refusal:
            return [refusal.code]

    def answer_in_range(self, call):
        """The numbers that answer a call whose arguments lie in their ranges."""
        if call.place == CANON:
            return self.answer_canon(call.texts[0])
        if call.place == DIMS:
            return self.answer_dims(call.texts[0])
        if call.place == SHOW:
            return self.answer_show(call.texts[0], call.texts[1], call.numbers[0], call.numbers[1])
        if call.place == COMPARE:
            return self.answer_compare(call.texts[0], call.texts[1])
        if call.place == ADD_UP:
            return self.answer_sum(call.texts)
        if call.place == SORT:
            return self.answer_sort(call.texts)
        if call.place == DEFINE:
            return self.answer_define(tuple(call.texts[0]), call.texts[1])
        if call.place == FORGET:
            return self.answer_forget(tuple(call.texts[0]))
        if call.place == NAMES:
            return self.answer_names()
        if call.place == WHAT:
            return self.answer_what(tuple(call.texts[0]))
        if call.place == SPLIT:
            return self.answer_split(call.texts[0], call.texts[1:])
        if call.place == NEAR:
            return self.answer_near(call.texts[0], call.texts[1], call.numbers[0])
        if call.place == WHOLE:
            return self.answer_whole(call.texts[0])
        if call.place == HANDY:
            return self.answer_handy(call.texts[0], call.numbers[0], call.numbers[1])
        if call.place == TIDY:
            return self.answer_tidy(call.texts[0])
        return self.answer_unknown(call.texts[0])

    def worth(self, text):
        """The quantity of a text; it's read whole before anything is worked out."""
        return worked_out(read(text), self.units, self.names)

    def answer_canon(self, text):
        """The one text of a text's quantity."""
        return text_answer(one_text(self.worth(text)))

    def answer_dims(self, text):
        """The exponents, moved so that none is below 0."""
        return [power + MOST_POWER for power in self.worth(text).powers]

    def answer_show(self, text, unit_text, places, way):
        """A quantity told in a unit."""
        quantity = self.worth(text)
        unit = self.worth(unit_text)
        return text_answer(rounded_text(how_often(quantity, unit), places, way))

    def answer_compare(self, first_text, second_text):
        """Which of two quantities is more."""
        first = self.worth(first_text)
        second = self.worth(second_text)
        need_alike(first, second)
        order = compared(first, second)
        if order < 0:
            return [0]
        if order == 0:
            return [1]
        return [2]

    def answer_sum(self, texts):
        """The one text of the sum; all texts are worked out before any are added."""
        quantities = [self.worth(text) for text in texts]
        total = quantities[0]
        for quantity in quantities[1:]:
            total = plus(total, quantity)
        return text_answer(one_text(total))

    def answer_sort(self, texts):
        """The texts' places, as their quantities rise."""
        quantities = [self.worth(text) for text in texts]
        for quantity in quantities:
            need_alike(quantities[0], quantity)
        places = []
        for place, quantity in enumerate(quantities):
            # Of quantities that are the same the lesser place stays ahead: it came first.
            at = len(places)
            while at > 0 and compared(quantity, quantities[places[at - 1]]) < 0:
                at -= 1
            places.insert(at, place)
        return places

    def answer_define(self, word, text):
        """Lets a word stand for a text's quantity."""
        if not is_name(word):
            raise NotAName()
        if word in self.units:
            raise UnitWord()
        if word in self.names:
            raise AlreadyDefined()
        if len(self.names) == MOST_NAMES:
            raise TooManyNames()
        self.names[word] = self.worth(text)
        return [len(self.names)]

    def answer_forget(self, word):
        """Lets a word stand for nothing again."""
        if word not in self.names:
            raise NotDefined()
        self.names.pop(word)
        return [len(self.names)]

    def answer_names(self):
        """The names that are defined."""
        return words_answer(list(self.names))

    def answer_what(self, word):
        """The one text of what a word stands for; it's taken as it is, not read."""
        return text_answer(one_text(name_worth(word, self.units, self.names)))

    def answer_split(self, text, unit_texts):
        """How often each unit is taken, and what's left; all units are looked at before any is taken."""
        left = self.worth(text)
        need_splittable(left)
        units = []
        for unit_text in unit_texts:
            unit = self.worth(unit_text)
            need_split_unit(left, unit)
            units.append(unit)
        answer = []
        for unit in units:
            often = often_taken(left, unit)
            left = less_units(left, often, unit)
            answer.extend(text_answer(str(often)))
        return answer + text_answer(one_text(left))

    def answer_near(self, text, unit_text, most):
        """The nearest fraction to how often a unit goes into a quantity."""
        quantity = self.worth(text)
        unit = self.worth(unit_text)
        fraction = nearest_fraction(how_often(quantity, unit), most)
        return text_answer(str(fraction.top)) + [fraction.bottom]

    def answer_whole(self, text):
        """The greatest unit that a quantity is a whole number of, and this number."""
        quantity = self.worth(text)
        word = whole_word(quantity, self.units)
        return bytes_answer(word) + text_answer(str(how_often(quantity, self.units[word]).top))

    def answer_handy(self, text, places, way):
        """A quantity told in its handy unit, and that unit's word."""
        quantity = self.worth(text)
        word = handy_word(quantity, self.units)
        number = rounded_text(how_often(quantity, self.units[word]), places, way)
        return bytes_answer(text_bytes(f"{number} ") + word)

    def answer_tidy(self, text):
        """A text written again; it's read, not worked out."""
        return bytes_answer(tidied(read(text)))

    def answer_unknown(self, text):
        """The names in a text that stand for nothing; it's read, not worked out."""
        return words_answer(unknown_names(read(text), self.units, self.names))


def answers(calls):
    """The answers to a list of calls on a new desk, each with how many numbers it has ahead of it."""
    desk = Desk()
    given = []
    start = 0
    while start < len(calls):
        call = call_at(calls, start)
        answer = desk.answer(call)
        given.append(len(answer))
        given.extend(answer)
        start = call.end
    return given
