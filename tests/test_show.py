"""show: a quantity told in a unit, rounded by a way."""

import unittest

from tests.helper import define, show, told

WAYS = range(6)


def ways(text, unit, places):
    """What each way of rounding tells."""
    return [told(show(text, unit, places, way)) for way in WAYS]


class Rounding(unittest.TestCase):
    def test_halves(self):
        self.assertEqual(ways("2.5", "1", 0), ["2", "3", "2", "3", "3", "2"])
        self.assertEqual(ways("3.5", "1", 0), ["3", "4", "3", "4", "4", "4"])
        self.assertEqual(ways("0.5", "1", 0), ["0", "1", "0", "1", "1", "0"])

    def test_halves_below_0(self):
        self.assertEqual(ways("-2.5", "1", 0), ["-3", "-2", "-2", "-3", "-3", "-2"])
        self.assertEqual(ways("-3.5", "1", 0), ["-4", "-3", "-3", "-4", "-4", "-4"])
        self.assertEqual(ways("-0.5", "1", 0), ["-1", "0", "0", "-1", "-1", "0"])

    def test_just_beside_halves(self):
        self.assertEqual(ways("2.51", "1", 0), ["2", "3", "2", "3", "3", "3"])
        self.assertEqual(ways("2.49", "1", 0), ["2", "3", "2", "3", "2", "2"])
        self.assertEqual(ways("-2.51", "1", 0), ["-3", "-2", "-2", "-3", "-3", "-3"])
        self.assertEqual(ways("-2.49", "1", 0), ["-3", "-2", "-2", "-3", "-2", "-2"])

    def test_whole_numbers_stay(self):
        self.assertEqual(ways("-7", "1", 0), ["-7"] * 6)
        self.assertEqual(ways("0", "1", 2), ["0.00"] * 6)
        self.assertEqual(ways("1.25", "1", 2), ["1.25"] * 6)

    def test_thirds_with_places(self):
        self.assertEqual(ways("2/3", "1", 3), ["0.666", "0.667", "0.666", "0.667", "0.667", "0.667"])
        self.assertEqual(ways("-1/3", "1", 3), ["-0.334", "-0.333", "-0.333", "-0.334", "-0.333", "-0.333"])


class Places(unittest.TestCase):
    def test_ordinary(self):
        self.assertEqual(told(show("2.4 L", "mL", 0, 4)), "2400")
        self.assertEqual(told(show("13 mL/kg/h", "uL/kg/min", 2, 5)), "216.67")
        self.assertEqual(told(show("1 wk", "d", 1, 0)), "7.0")

    def test_zeros_in_front(self):
        self.assertEqual(told(show("0.001", "1", 3, 0)), "0.001")
        self.assertEqual(told(show("-0.001", "1", 3, 0)), "-0.001")
        self.assertEqual(told(show("1", "1", 12, 0)), "1.000000000000")
        self.assertEqual(told(show("1 ppm", "1", 12, 0)), "0.000001000000")

    def test_what_becomes_0_has_no_sign(self):
        self.assertEqual(told(show("-0.001", "1", 2, 1)), "0.00")
        self.assertEqual(told(show("-0.4", "1", 0, 4)), "0")

    def test_units_below_0_and_of_any_size(self):
        self.assertEqual(told(show("5 m", "-2 m", 1, 0)), "-2.5")
        self.assertEqual(told(show("-5 m", "-2 m", 0, 0)), "2")
        self.assertEqual(told(show("-5 m", "-2 m", 0, 1)), "3")
        self.assertEqual(told(define("pack", "12 mL"), show("1 L", "pack", 2, 4)), "83.33")

    def test_nothing_needs_to_fit(self):
        nines = "9" * 40
        self.assertEqual(told(show(nines, "1 / " + nines, 0, 0)), str((10 ** 40 - 1) ** 2))
        self.assertEqual(told(show(nines, "1", 12, 0)), nines + "." + "0" * 12)
        self.assertEqual(told(show("1 / " + nines, nines, 12, 3)), "0.000000000001")
        self.assertEqual(told(show("m^20", "m^20", 0, 0)), "1")


class Refusals(unittest.TestCase):
    def test_ranges(self):
        self.assertEqual(told(show("1", "1", 12, 5)), "1.000000000000")
        for places, way in ((-1, 0), (13, 0), (0, -1), (0, 6), (10 ** 18, 0), (0, -10 ** 18)):
            self.assertEqual(told(show("1", "1", places, way)), -1)

    def test_range_comes_first(self):
        self.assertEqual(told(show("", "1", 13, 0)), -1)
        self.assertEqual(told(show("x", "1", 0, 6)), -1)
        self.assertEqual(told(show("x", [256], 0, 0)), -1)

    def test_texts_in_their_order(self):
        self.assertEqual(told(show("x", ")", 0, 0)), -3)
        self.assertEqual(told(show("1", ")", 0, 0)), -1000)
        self.assertEqual(told(show("1/0", "x", 0, 0)), -4)
        self.assertEqual(told(show("m", "x", 0, 0)), -3)

    def test_not_alike_then_zero(self):
        self.assertEqual(told(show("m", "s", 0, 0)), -5)
        self.assertEqual(told(show("m", "0 s", 0, 0)), -5)
        self.assertEqual(told(show("m", "0 m", 0, 0)), -4)
        self.assertEqual(told(show("0 m", "0 m", 0, 0)), -4)


if __name__ == "__main__":
    unittest.main()
