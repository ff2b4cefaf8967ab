"""Many made texts, answered a second way."""

import itertools
import random
import unittest

from tests import reference
from tests.helper import ask_all, canon, compare, show

PIECES = ["1", "m", "-", "+", "*", "^", "(", ")", "2.5"]
NUMBERS = ["0", "1", "2", "3", "0.5", "1.25", "20", "21", "9" * 40, "9" * 41, "1" + "0" * 39, "007"]
NAMES = ["m", "kg", "s", "mL", "mmHg", "%", "x", "V", "A", "a" * 17, "km"]
SIGNS = ["+", "-", "*", "/", "^", "(", ")", ".", "#", "^-", "^2", "^-3"]


def told_all(texts):
    """What canon tells of each text."""
    told = []
    for start in range(0, len(texts), 100):
        for answer in ask_all(*[canon(text) for text in texts[start:start + 100]]):
            told.append(answer[0] if answer[0] < 0 else bytes(answer[1:]).decode())
    return told


def made_expr(chance, depth):
    """A text that's mostly an expr."""
    parts = []
    for place in range(chance.randint(1, 3)):
        if place:
            parts.append(chance.choice([" + ", "-", " * ", "/", " / ", "*"]))
        elif chance.random() < 0.2:
            parts.append("-")
        if depth and chance.random() < 0.4:
            parts.append("(" + made_expr(chance, depth - 1) + ")")
        else:
            parts.append(chance.choice(["0", "1", "2", "3", "0.5", "12", "9" * 20, "10", "1" + "0" * 39]))
        while chance.random() < 0.35:
            parts.append(" " + chance.choice(NAMES[:6] + ["K", "h"]))
        if chance.random() < 0.25:
            parts.append("^" + chance.choice(["0", "1", "2", "3", "-1", "-2", "- 3", "20", "7"]))
    return "".join(parts)


class AgainstReference(unittest.TestCase):
    def same(self, texts):
        names = reference.units()
        for text, told in zip(texts, told_all(texts)):
            self.assertEqual(told, reference.canon(text, names), text)

    def test_all_short_texts(self):
        texts = []
        for count in range(5):
            texts += ["".join(pieces) for pieces in itertools.product(PIECES, repeat=count)]
        self.same(texts)

    def test_pieces_thrown_together(self):
        chance = random.Random(1)
        texts = []
        for number in range(4000):
            pieces = chance.choices(NUMBERS + NAMES + SIGNS, k=chance.randint(1, 9))
            texts.append(chance.choice(["", " "]).join(pieces)[:256])
        self.same(texts)

    def test_made_exprs(self):
        chance = random.Random(2)
        texts = [made_expr(chance, 3) for number in range(6000)]
        self.same([text for text in texts if len(text) <= 256])

    def test_exprs_with_one_byte_changed(self):
        chance = random.Random(3)
        texts = []
        for number in range(3000):
            text = made_expr(chance, 2)[:256]
            place = chance.randrange(len(text))
            texts.append(text[:place] + chance.choice("0m ().^-+%_#\x80") + text[place + 1:])
        self.same(texts)

    def test_compare_and_show(self):
        chance = random.Random(4)
        for number in range(500):
            top, unit = chance.randint(-40, 40), chance.choice([-8, -3, -2, -1, 1, 2, 3, 4, 7, 8])
            places, way = chance.randint(0, 3), chance.randint(0, 5)
            texts = "(%d) m / 4" % top if top >= 0 else "-%d m / 4" % -top, "%d m" % unit
            given = ask_all(show(*texts, places, way), compare(*texts))
            number = reference.Fraction(top, 4)
            self.assertEqual(given[1], [1 + (number > unit) - (number < unit)])
            self.assertEqual(bytes(given[0][1:]).decode(), shown(number / unit, places, way))


def shown(value, places, way):
    """A fraction with places, rounded by picking among the whole numbers around it."""
    value *= 10 ** places
    near = [value.__floor__(), value.__ceil__()]
    keys = [
        lambda whole: whole, lambda whole: -whole, lambda whole: abs(whole), lambda whole: -abs(whole),
        lambda whole: (abs(whole - value), -abs(whole)), lambda whole: (abs(whole - value), whole % 2)]
    whole = min(near, key=keys[way])
    digits = str(abs(whole)).rjust(places + 1, "0")
    return ("-" if whole < 0 else "") + (digits if places == 0 else digits[:-places] + "." + digits[-places:])


if __name__ == "__main__":
    unittest.main()
