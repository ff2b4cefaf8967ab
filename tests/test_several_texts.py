"""compare, sum and sort."""

import unittest

from tests.helper import add_up, ask, compare, define, sort, told

NINES = "9" * 40


class Compare(unittest.TestCase):
    def test_less_same_more(self):
        self.assertEqual(ask(compare("1 L", "1001 mL")), [0])
        self.assertEqual(ask(compare("1 L", "1000 mL")), [1])
        self.assertEqual(ask(compare("1 L", "999 mL")), [2])

    def test_below_0(self):
        self.assertEqual(ask(compare("-2", "-1")), [0])
        self.assertEqual(ask(compare("-1/3", "-2/6")), [1])
        self.assertEqual(ask(compare("0 m", "-1 um")), [2])
        self.assertEqual(ask(compare("-1", "1")), [0])

    def test_close_together(self):
        self.assertEqual(ask(compare("1 / " + NINES, "1 / (" + NINES + " - 1)")), [0])
        self.assertEqual(ask(compare(NINES, NINES + " - 1")), [2])

    def test_refusals(self):
        self.assertEqual(ask(compare("m", "s")), [-5])
        self.assertEqual(ask(compare("0 m", "0")), [-5])
        self.assertEqual(ask(compare("x", "")), [-3])
        self.assertEqual(ask(compare("", "x")), [-1000])
        self.assertEqual(ask(compare("m", "1/0")), [-4])
        self.assertEqual(ask(compare("", [300])), [-1])


class AddUp(unittest.TestCase):
    def test_ordinary(self):
        self.assertEqual(told(add_up("1 h", "30 min", "-15 s")), "5385 s")
        self.assertEqual(told(add_up("1/3", "1/6")), "(1/2)")

    def test_1_and_16_texts(self):
        self.assertEqual(told(add_up("3 m")), "3 m")
        self.assertEqual(told(add_up(*["2 m"] * 16)), "32 m")

    def test_0_and_17_texts(self):
        self.assertEqual(told(add_up()), -1)
        self.assertEqual(told(add_up(*["2 m"] * 17)), -1)
        self.assertEqual(told(add_up(*[""] * 40)), -1)

    def test_all_are_worked_out_before_any_are_added(self):
        self.assertEqual(told(add_up("m", "s", "x")), -3)
        self.assertEqual(told(add_up(NINES, "1", ")")), -1000)
        self.assertEqual(told(add_up("m", "s", "1/0", "x")), -4)

    def test_added_from_the_first_on(self):
        self.assertEqual(told(add_up(NINES, "1", "-1")), -6)
        self.assertEqual(told(add_up(NINES, "-1", "1")), NINES)
        self.assertEqual(told(add_up(NINES, "1", "1 m")), -6)
        self.assertEqual(told(add_up(NINES, "1 m", "1")), -5)
        self.assertEqual(told(add_up("1", "2", "3", "4 s")), -5)
        self.assertEqual(told(add_up("0 m", "0 s")), -5)

    def test_range_comes_first(self):
        self.assertEqual(told(add_up("x", [-1])), -1)
        self.assertEqual(told(add_up("x", "1" * 257)), -1)


class Sort(unittest.TestCase):
    def test_rising(self):
        self.assertEqual(ask(sort("3 m", "1 km", "-2 m", "40 cm")), [2, 3, 0, 1])
        self.assertEqual(ask(sort("-1/2", "-1/3", "-1")), [2, 0, 1])

    def test_the_same_keep_their_order(self):
        self.assertEqual(ask(sort("1 L", "1000 mL", "0 L", "10 dL", "0 mL")), [2, 4, 0, 1, 3])
        self.assertEqual(ask(sort(*["1/2", "0.5"] * 8)), list(range(16)))

    def test_1_and_16_texts(self):
        self.assertEqual(ask(sort("7 K")), [0])
        self.assertEqual(ask(sort(*[str(16 - place) for place in range(16)])), list(range(15, -1, -1)))

    def test_0_and_17_texts(self):
        self.assertEqual(ask(sort()), [-1])
        self.assertEqual(ask(sort(*["1"] * 17)), [-1])

    def test_refusals(self):
        self.assertEqual(ask(sort("1", "2", "3 m")), [-5])
        self.assertEqual(ask(sort("m", "s", "x")), [-3])
        self.assertEqual(ask(sort("m", "s", "")), [-1000])
        self.assertEqual(ask(sort("x", [256])), [-1])

    def test_large_quantities(self):
        self.assertEqual(ask(sort(NINES, NINES + " - 1", "-" + NINES, "1 / " + NINES)), [2, 3, 1, 0])

    def test_defined_names(self):
        self.assertEqual(ask(define("x", "5 m"), sort("6 m", "x", "4 m")), [2, 1, 0])


if __name__ == "__main__":
    unittest.main()
