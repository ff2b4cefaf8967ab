"""split, near, whole, handy, tidy and unknown, answered a second way for many made texts."""

import itertools
import random
import unittest
from fractions import Fraction

from tests import reference, tidy_reference
from tests.helper import (
    ask_all, canon, counted_parts, define, handy, near, parts, refusal_or, split, tidy, told_parts, unknown, whole)
from tests.test_against_reference import made_expr, shown

UNITS = reference.units()
SIZES = [Fraction(size) for size in ("1/1000000000", "1/700", "1/3", "1", "40", "86400", "10000000")]


def text_of(value, powers):
    """A text that's worth a quantity."""
    return reference.one_text(value, powers)


def made_value(chance):
    """A fraction that's often a whole number or near one."""
    value = chance.choice(SIZES) * chance.randint(-30, 30)
    return value + chance.choice([0, 0, Fraction(1, chance.randint(1, 50)), Fraction(chance.randint(1, 99), 10 ** 6)])


def alike_units(powers):
    """The words of the units with these exponents, in the table's order."""
    return [word for word in UNITS if UNITS[word][1] == powers]


def first_by(words, size):
    """The first word with the greatest size."""
    return max(words, key=lambda word: (size(word), -list(UNITS).index(word)))


def whole_told(value, powers):
    words = [word for word in alike_units(powers) if (value / UNITS[word][0]).denominator == 1]
    if not words:
        return -14
    word = first_by(words, lambda word: UNITS[word][0])
    return [word, str(value / UNITS[word][0])]


def handy_told(value, powers, places, way):
    words = alike_units(powers)
    if not words:
        return -14
    below = [word for word in words if UNITS[word][0] <= abs(value)]
    word = first_by(below, lambda word: UNITS[word][0]) if below else first_by(words, lambda word: -UNITS[word][0])
    return [shown(value / UNITS[word][0], places, way) + " " + word]


def near_told(value, most):
    """p and q by trying every q with the whole numbers around."""
    tried = []
    for q in range(1, most + 1):
        around = (value * q).__floor__()
        tried += [(abs(value - Fraction(p, q)), q, p) for p in (around - 1, around, around + 1, around + 2)]
    distance, q, p = min(tried)
    return p, q


def split_told(value, sizes, powers):
    """The answer's texts, where everything fits."""
    told = []
    for size in sizes:
        often = value // size
        told.append(str(often))
        value -= often * size
    return told + [reference.one_text(value, powers)]


class Chosen(unittest.TestCase):
    def setUp(self):
        self.chance = random.Random(5)
        self.kinds = sorted({powers for value, powers in UNITS.values()}) + [(2, 0, 0, 0, 0, 0), (0, 0, 0, 0, 0, 3)]

    def test_whole(self):
        for number in range(1500):
            value, powers = made_value(self.chance), self.chance.choice(self.kinds)
            text = text_of(value, powers)
            self.assertEqual(told_parts(whole(text)), whole_told(value, powers), text)

    def test_whole_and_handy_of_so_many_units(self):
        for word, often in itertools.product(UNITS, (-2, -1, 1, 5, 60, 1000)):
            value, powers = UNITS[word][0] * often, UNITS[word][1]
            text = text_of(value, powers)
            self.assertEqual(told_parts(whole(text)), whole_told(value, powers), text)
            self.assertEqual(told_parts(handy(text, 3, 4)), handy_told(value, powers, 3, 4), text)

    def test_handy(self):
        for number in range(1500):
            value, powers = made_value(self.chance), self.chance.choice(self.kinds)
            places, way = self.chance.randint(0, 12), self.chance.randint(0, 5)
            text = text_of(value, powers)
            self.assertEqual(told_parts(handy(text, places, way)), handy_told(value, powers, places, way), text)

    def test_near(self):
        small = itertools.product(range(-14, 15), range(1, 13), range(1, 8))
        cases = [(Fraction(top, bottom), most) for top, bottom, most in small]
        for number in range(200):
            cases.append((made_value(self.chance), self.chance.randint(1, 40)))
        for value, most in cases:
            p, q = near_told(value, most)
            answer = ask_all(near(text_of(value * 3, (1, 0, 0, 0, 0, 0)), "3 m", most))[0]
            self.assertEqual((parts(answer[:-1]), answer[-1]), ([str(p)], q), (value, most))

    def test_near_with_the_greatest_n(self):
        for value in (Fraction(314159265358979, 10 ** 14), Fraction(-1, 1999), Fraction(61803398875, 10 ** 11)):
            p, q = near_told(value, 1000)
            answer = ask_all(near(text_of(value, (0,) * 6), "1", 1000))[0]
            self.assertEqual((parts(answer[:-1]), answer[-1]), ([str(p)], q), value)

    def test_split(self):
        for number in range(600):
            powers = self.chance.choice(self.kinds)
            value = abs(made_value(self.chance))
            sizes = [abs(made_value(self.chance)) or Fraction(1) for unit in range(self.chance.randint(1, 8))]
            told = told_parts(split(text_of(value, powers), *[text_of(size, powers) for size in sizes]))
            self.assertEqual(told, split_told(value, sizes, powers))


class Read(unittest.TestCase):
    def tidied(self, texts):
        """What tidy tells of each text, and of what it told."""
        told = []
        for start in range(0, len(texts), 50):
            told += [refusal_or(answer, parts) for answer in ask_all(*[tidy(text) for text in texts[start:start + 50]])]
        return told

    def same(self, texts):
        again = []
        for text, told in zip(texts, self.tidied(texts)):
            refusal = reference.reading_refusal(text)
            if refusal is None:
                wanted = tidy_reference.tidied(text)
                self.assertEqual(told, [wanted] if len(wanted) <= 256 else -15, text)
                again += told if len(wanted) <= 256 else []
            else:
                self.assertEqual(told, refusal, text)
        self.assertEqual(self.tidied(again), [[text] for text in again])

    def test_tidy_of_made_exprs(self):
        chance = random.Random(6)
        self.same([text for text in [made_expr(chance, 3) for number in range(1500)] if len(text) <= 256])

    def test_tidy_of_all_brackets_around_few_things(self):
        texts = []
        for first, second in itertools.product(["+", "-", "*", "/", "^2", " b"], repeat=2):
            for turns in itertools.product(["", "-"], repeat=3):
                inner = turns[0] + "a" + (first if first in ("^2", " b") else first + "c")
                for bracketed in ("(" + inner + ")", "(" + turns[1] + "(" + inner + "))", inner):
                    if second in ("^2", " b"):
                        texts.append(turns[2] + bracketed + second)
                    else:
                        texts += [turns[2] + bracketed + second + "e", turns[2] + "e" + second + bracketed]
        self.same(texts)

    def test_tidy_keeps_the_worth(self):
        chance = random.Random(7)
        for number in range(1000):
            text = made_expr(chance, 3)[:256]
            told = told_parts(tidy(text))
            if isinstance(told, list):
                self.assertEqual(*ask_all(canon(text), canon(told[0])), text)

    def test_unknown(self):
        chance = random.Random(8)
        for number in range(500):
            text = made_expr(chance, 2)
            for old, new in (("kg", "x"), ("mL", "y9"), ("K", "x"), ("s", "zz")):
                text = text.replace(old, new) if chance.random() < 0.7 else text
            if len(text) <= 256:
                wanted = []
                for token in tidy_reference.pieces_of(text):
                    if token in ("x", "zz") and token not in wanted:
                        wanted.append(token)
                answer = ask_all(define("y9", "1"), unknown(text))[1]
                self.assertEqual(refusal_or(answer, counted_parts), reference.reading_refusal(text) or wanted, text)


if __name__ == "__main__":
    unittest.main()
