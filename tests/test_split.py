"""split: how often each unit is taken, and what's left."""

import unittest

from tests.helper import ask, define, split, told_parts

NINES = "9" * 40


class Counting(unittest.TestCase):
    def test_ordinary(self):
        self.assertEqual(told_parts(split("3725.5 s", "h", "min", "s")), ["1", "2", "5", "(1/2) s"])
        self.assertEqual(told_parts(split("10 d", "wk", "d")), ["1", "3", "0 s"])
        self.assertEqual(told_parts(split("2.4 L", "L", "dL", "mL")), ["2", "4", "0", "0 m^3"])

    def test_how_it_is_answered(self):
        self.assertEqual(ask(split("25 m", "m")), [2, 50, 53, 3, 48, 32, 109])

    def test_units_are_any_texts(self):
        self.assertEqual(told_parts(split("10", "3", "1/2")), ["3", "2", "0"])
        self.assertEqual(told_parts(split("100 s", "(1/2) min + 5 s")), ["2", "30 s"])
        self.assertEqual(told_parts(define("pack", "12 mL"), split("100 mL", "pack")), ["8", "(1/250000) m^3"])

    def test_in_the_order_they_come(self):
        self.assertEqual(told_parts(split("3725 s", "s", "h")), ["3725", "0", "0 s"])
        self.assertEqual(told_parts(split("130 s", "min", "min")), ["2", "0", "10 s"])
        self.assertEqual(told_parts(split("130 s", "h", "min")), ["0", "2", "10 s"])

    def test_nothing_to_split(self):
        self.assertEqual(told_parts(split("0 m", "km", "m")), ["0", "0", "0 m"])
        self.assertEqual(told_parts(split("-0", "1")), ["0", "0"])

    def test_just_at_a_unit(self):
        self.assertEqual(told_parts(split("60 s", "min")), ["1", "0 s"])
        self.assertEqual(told_parts(split("59.999 s", "min")), ["0", "(59999/1000) s"])

    def test_1_and_8_units(self):
        self.assertEqual(told_parts(split("7", "2")), ["3", "1"])
        self.assertEqual(told_parts(split("255", "128", "64", "32", "16", "8", "4", "2", "1")), ["1"] * 8 + ["0"])

    def test_what_just_fits(self):
        self.assertEqual(told_parts(split(NINES, "1")), [NINES, "0"])
        self.assertEqual(told_parts(split("1 / " + NINES, "1")), ["0", "(1/" + NINES + ")"])


class Refusals(unittest.TestCase):
    def test_0_and_9_units(self):
        self.assertEqual(told_parts(split("1")), -1)
        self.assertEqual(told_parts(split("1", *["1"] * 9)), -1)
        self.assertEqual(told_parts(split("1", *["1"] * 40)), -1)

    def test_range_comes_first(self):
        self.assertEqual(told_parts(split(")")), -1)
        self.assertEqual(told_parts(split("-1", *[")"] * 9)), -1)
        self.assertEqual(told_parts(split("-1", "1", [256])), -1)
        self.assertEqual(told_parts(split("x", "1" * 257)), -1)
        self.assertEqual(told_parts(split([49, -1], "1")), -1)

    def test_what_is_split_is_looked_at_first(self):
        self.assertEqual(told_parts(split(")", "0")), -1000)
        self.assertEqual(told_parts(split("x", ")")), -3)
        self.assertEqual(told_parts(split("1/0", "x")), -4)
        self.assertEqual(told_parts(split("(" * 41, "x")), -2)

    def test_below_0_comes_before_the_units(self):
        self.assertEqual(told_parts(split("-1 m", "m")), -12)
        self.assertEqual(told_parts(split("-1 um", ")")), -12)
        self.assertEqual(told_parts(split("-1 m", "s")), -12)
        self.assertEqual(told_parts(split("-1 m", "0 m")), -12)

    def test_each_unit_by_itself(self):
        self.assertEqual(told_parts(split("m", ")")), -1000)
        self.assertEqual(told_parts(split("m", "x")), -3)
        self.assertEqual(told_parts(split("m", "m/0")), -4)
        self.assertEqual(told_parts(split("m", "s")), -5)
        self.assertEqual(told_parts(split("m", "1")), -5)
        self.assertEqual(told_parts(split("m", "0 m")), -13)
        self.assertEqual(told_parts(split("m", "-1 m")), -13)
        self.assertEqual(told_parts(split("m", "0 s")), -5)
        self.assertEqual(told_parts(split("m", "-1 s")), -5)

    def test_a_unit_is_done_before_the_next_is_looked_at(self):
        self.assertEqual(told_parts(split("m", "s", ")")), -5)
        self.assertEqual(told_parts(split("m", "0 m", ")")), -13)
        self.assertEqual(told_parts(split("m", "0 m", "s")), -13)
        self.assertEqual(told_parts(split("m", "s", "0 m")), -5)
        self.assertEqual(told_parts(split("m", "m", ")", "s")), -1000)
        self.assertEqual(told_parts(split("m", "m", "x", "0 m")), -3)
        self.assertEqual(told_parts(split("m", "m", "-1 m", "s")), -13)

    def test_all_units_come_before_anything_is_counted(self):
        tiny = "1 / " + NINES
        self.assertEqual(told_parts(split(NINES, tiny)), -6)
        self.assertEqual(told_parts(split(NINES, tiny, ")")), -1000)
        self.assertEqual(told_parts(split(NINES, tiny, "x")), -3)
        self.assertEqual(told_parts(split(NINES, tiny, "m")), -5)
        self.assertEqual(told_parts(split(NINES, tiny, "0")), -13)

    def test_a_quotient_that_does_not_fit(self):
        self.assertEqual(told_parts(split(NINES, "0.1")), -6)
        # Nothing of it would be taken, but the quotient is asked for.
        self.assertEqual(told_parts(split("1 / " + NINES, NINES)), -6)
        self.assertEqual(told_parts(split("1/3", "1", NINES)), -6)

    def test_so_many_units_that_do_not_fit(self):
        # The quotient is b (10^20 - 2) / 3, just below 10^40; so many units would be 2 (b (10^20 - 2) - 1) / b.
        b = 10 ** 20 + 1
        self.assertEqual(told_parts(split(str(2 * (10 ** 20 - 2)), "6 / %d" % b)), -6)

    def test_a_rest_that_does_not_fit(self):
        b = 10 ** 30
        self.assertEqual(told_parts(split("1 / %d" % b, "1 / %d" % (b + 1))), -6)

    def test_units_themselves_have_to_fit(self):
        self.assertEqual(told_parts(split("1", NINES + " * 10")), -6)
        self.assertEqual(told_parts(split("m^20 m", "m^20")), -6)


if __name__ == "__main__":
    unittest.main()
