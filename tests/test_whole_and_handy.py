"""whole and handy: a unit of the table for a quantity."""

import unittest

from tests.helper import ask, define, handy, told, told_parts, whole

NINES = "9" * 40


class Whole(unittest.TestCase):
    def check(self, text, word, number):
        self.assertEqual(told_parts(whole(text)), [word, number], text)

    def test_how_it_is_answered(self):
        self.assertEqual(ask(whole("1500 mL")), [2, 100, 76, 2, 49, 53])

    def test_ordinary(self):
        self.check("14 d", "wk", "2")
        self.check("8 d", "d", "8")
        self.check("90 min", "min", "90")
        self.check("1.5 s", "ms", "1500")
        self.check("2 L + 3 uL", "uL", "2000003")
        self.check("5000 m", "km", "5")
        self.check("999 m", "m", "999")
        self.check("3 m kg/s^2", "N", "3")

    def test_not_the_greatest_that_is_less(self):
        self.check("(1/1000) um * 1000", "um", "1")
        self.check("1.0005 km", "dm", "10005")

    def test_0(self):
        self.check("0 m", "km", "0")
        self.check("0 s", "wk", "0")
        self.check("0 Pa", "atm", "0")
        self.check("0", "%", "0")

    def test_below_0(self):
        self.check("-3 km", "km", "-3")
        self.check("-1.5 kg", "g", "-1500")

    def test_without_units(self):
        self.check("1", "%", "100")
        self.check("0.001", "ppm", "1000")
        self.check("1.5 %", "ppm", "15000")

    def test_two_units_as_great(self):
        self.check("100 Pa", "hPa", "1")
        self.check("3 mbar", "hPa", "3")
        self.check("-7 mbar", "hPa", "-7")

    def test_greatest_by_size_not_by_place(self):
        self.check("101325 Pa", "atm", "1")
        self.check("10132500000 Pa", "atm", "100000")
        self.check("100000 Pa", "bar", "1")
        self.check("980665 Pa", "cmH2O", "10000")
        self.check("1 mmHg", "mmHg", "1")

    def test_none(self):
        for text in ("(1/3) m", "0.1 um", "m s", "0 m s", "m^-1", "1/3", "mol/L", "0.5 N", "m^2", "-(1/3) Hz"):
            self.assertEqual(told_parts(whole(text)), -14, text)

    def test_nothing_needs_to_fit(self):
        self.check(NINES + " kg / 20", "g", str((10 ** 40 - 1) * 50))
        self.check("-" + NINES + " L / 3", "L", "-" + "3" * 40)

    def test_names_are_no_units(self):
        self.assertEqual(told_parts(define("pack", "2 km"), whole("2 pack")), ["km", "4"])

    def test_refusals(self):
        self.assertEqual(told_parts(whole("")), -1000)
        self.assertEqual(told_parts(whole("x")), -3)
        self.assertEqual(told_parts(whole("m/0")), -4)
        self.assertEqual(told_parts(whole("m + s")), -5)
        self.assertEqual(told_parts(whole("m" + " " * 256)), -1)
        self.assertEqual(told_parts(whole([109, 256])), -1)


class Handy(unittest.TestCase):
    def check(self, text, places, way, told_text):
        self.assertEqual(told(handy(text, places, way)), told_text, text)

    def test_how_it_is_answered(self):
        self.assertEqual(ask(handy("1 km", 0, 0)), [4, 49, 32, 107, 109])

    def test_ordinary(self):
        self.check("1500 mL", 2, 4, "1.50 L")
        self.check("0.25 L", 1, 4, "2.5 dL")
        self.check("3700 s", 2, 4, "1.03 h")
        self.check("10 d", 3, 5, "1.429 wk")
        self.check("1234 ug", 0, 0, "1 mg")
        self.check("3 m kg/s^2", 1, 0, "3.0 N")
        self.check("2 m^2 kg s^-3 A^-2", 0, 0, "2 ohm")

    def test_just_at_a_unit(self):
        self.check("1 h", 0, 0, "1 h")
        self.check("3599 s", 2, 0, "59.98 min")
        self.check("-60 s", 0, 0, "-1 min")
        self.check("-59 s", 0, 0, "-59 s")

    def test_below_the_least(self):
        self.check("0.25 ms", 2, 0, "0.25 ms")
        self.check("0.25 um", 2, 0, "0.25 um")
        self.check("-(1/3) uL", 3, 0, "-0.334 uL")
        self.check("0.5 Pa", 1, 0, "0.5 Pa")
        self.check("0.5 N", 1, 0, "0.5 N")
        self.check("0.5 ppm", 1, 0, "0.5 ppm")

    def test_above_the_greatest(self):
        self.check("1000 wk", 0, 0, "1000 wk")
        self.check("2 atm", 0, 0, "2 atm")
        self.check("-12345 km", 0, 0, "-12345 km")
        self.check("12345 kg", 0, 0, "12345 kg")

    def test_0(self):
        self.check("0 m", 0, 0, "0 um")
        self.check("0 s", 2, 0, "0.00 ms")
        self.check("0", 0, 0, "0 ppm")
        self.check("0 Pa", 0, 0, "0 Pa")

    def test_without_units(self):
        self.check("0.5", 0, 0, "50 %")
        self.check("1 %", 0, 0, "1 %")
        self.check("0.005", 0, 0, "5000 ppm")
        self.check("-3", 1, 0, "-300.0 %")

    def test_two_units_as_great(self):
        self.check("100 Pa", 0, 0, "1 hPa")
        self.check("120 Pa", 1, 0, "1.2 hPa")
        self.check("-1.3 mbar", 1, 0, "-1.3 hPa")

    def test_greatest_by_size_not_by_place(self):
        self.check("99 Pa", 3, 4, "1.010 cmH2O")
        self.check("500 Pa", 3, 4, "3.750 mmHg")
        self.check("101325 Pa", 0, 0, "1 atm")
        self.check("101324 Pa", 5, 0, "1.01324 bar")

    def test_each_way(self):
        texts = [told(handy("-2.5 km", 0, way)) for way in range(6)]
        self.assertEqual(texts, ["-3 km", "-2 km", "-2 km", "-3 km", "-3 km", "-2 km"])
        texts = [told(handy("2.5 km", 0, way)) for way in range(6)]
        self.assertEqual(texts, ["2 km", "3 km", "2 km", "3 km", "3 km", "2 km"])

    def test_rounding_does_not_change_the_unit(self):
        self.check("999.9 m", 0, 4, "1000 m")
        self.check("0.0004 um", 0, 4, "0 um")

    def test_nothing_needs_to_fit(self):
        many = 10 ** 37 - 1
        self.check("%d Pa / %d" % (200 * many + 1, many), 12, 0, "1.500123151691 mmHg")
        self.check("1 m / " + NINES, 12, 3, "0.000000000001 um")
        self.check(NINES + " m", 12, 0, "9" * 37 + ".999000000000 km")

    def test_none(self):
        for text in ("m s", "0 m s", "m^2", "m^-1", "kg^2", "mol/L"):
            self.assertEqual(told(handy(text, 0, 0)), -14, text)

    def test_names_are_no_units(self):
        self.assertEqual(told(define("pack", "2 km"), handy("2 pack", 0, 0)), "4 km")

    def test_ranges(self):
        self.check("1 m", 12, 5, "1.000000000000 m")
        for places, way in ((-1, 0), (13, 0), (0, -1), (0, 6), (10 ** 18, 0), (0, -10 ** 18)):
            self.assertEqual(told(handy("1 m", places, way)), -1)
            self.assertEqual(told(handy(")", places, way)), -1)
        self.assertEqual(told(handy("m" + " " * 255, 0, 0)), "1 m")
        self.assertEqual(told(handy("m" + " " * 256, 0, 0)), -1)
        self.assertEqual(told(handy([41, -1], 0, 0)), -1)

    def test_refusals(self):
        self.assertEqual(told(handy("", 0, 0)), -1000)
        self.assertEqual(told(handy("x", 0, 0)), -3)
        self.assertEqual(told(handy("m/0", 0, 0)), -4)
        self.assertEqual(told(handy("m + s", 0, 0)), -5)
        self.assertEqual(told(handy("9^20 * 9^20 * 9^20", 0, 0)), -6)


if __name__ == "__main__":
    unittest.main()
