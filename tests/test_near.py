"""near: the nearest fraction with a small denominator."""

import unittest

from tests.helper import ask, define, near

NINES = "9" * 40


def nearest(text, unit, most):
    """p and q, or a refusal's number."""
    answer = ask(near(text, unit, most))
    if len(answer) == 1:
        return answer[0]
    assert answer[0] == len(answer) - 2, answer
    return bytes(answer[1:-1]).decode("ascii"), answer[-1]


class Nearest(unittest.TestCase):
    def test_how_it_is_answered(self):
        self.assertEqual(ask(near("3.14159265358979", "1", 1000)), [3, 51, 53, 53, 113])

    def test_ordinary(self):
        self.assertEqual(nearest("3.14159265358979", "1", 112), ("333", 106))
        self.assertEqual(nearest("3.14159265358979", "1", 7), ("22", 7))
        self.assertEqual(nearest("3.14159265358979", "1", 6), ("19", 6))
        self.assertEqual(nearest("1 min", "h", 60), ("1", 60))
        self.assertEqual(nearest("1 min", "h", 59), ("1", 59))
        self.assertEqual(nearest("20 min", "h", 100), ("1", 3))

    def test_just_so(self):
        self.assertEqual(nearest("5/10", "1", 1000), ("1", 2))
        self.assertEqual(nearest("12 m", "m", 1000), ("12", 1))
        self.assertEqual(nearest("999/1000", "1", 1000), ("999", 1000))
        self.assertEqual(nearest("999/1000", "1", 999), ("998", 999))

    def test_from_above_and_from_below(self):
        self.assertEqual(nearest("0.3", "1", 1), ("0", 1))
        self.assertEqual(nearest("0.7", "1", 1), ("1", 1))
        self.assertEqual(nearest("-0.3", "1", 1), ("0", 1))
        self.assertEqual(nearest("-0.7", "1", 1), ("-1", 1))

    def test_0(self):
        self.assertEqual(nearest("0 m", "m", 1000), ("0", 1))
        self.assertEqual(nearest("1/2001", "1", 1000), ("0", 1))
        self.assertEqual(nearest("1/1999", "1", 1000), ("1", 1000))

    def test_below_0(self):
        self.assertEqual(nearest("-3.14159265358979", "1", 1000), ("-355", 113))
        self.assertEqual(nearest("5 m", "-3 m", 3), ("-5", 3))
        self.assertEqual(nearest("-5 m", "-3 m", 2), ("3", 2))

    def test_as_near_with_the_same_q(self):
        self.assertEqual(nearest("1/2", "1", 1), ("0", 1))
        self.assertEqual(nearest("3/2", "1", 1), ("1", 1))
        self.assertEqual(nearest("-1/2", "1", 1), ("-1", 1))
        self.assertEqual(nearest("-3/2", "1", 1), ("-2", 1))
        self.assertEqual(nearest("5 m", "-2 m", 1), ("-3", 1))

    def test_as_near_with_another_q(self):
        self.assertEqual(nearest("1/4", "1", 2), ("0", 1))
        self.assertEqual(nearest("3/4", "1", 2), ("1", 1))
        self.assertEqual(nearest("-1/4", "1", 2), ("0", 1))
        self.assertEqual(nearest("-3/4", "1", 2), ("-1", 1))
        self.assertEqual(nearest("5/12", "1", 3), ("1", 2))
        self.assertEqual(nearest("-5/12", "1", 3), ("-1", 2))
        self.assertEqual(nearest("7/12", "1", 3), ("1", 2))
        self.assertEqual(nearest("1/2000", "1", 1000), ("0", 1))

    def test_nothing_needs_to_fit(self):
        self.assertEqual(nearest(NINES, "1 / " + NINES, 3), (str((10 ** 40 - 1) ** 2), 1))
        self.assertEqual(nearest("-" + NINES, "3 / " + NINES, 2), ("-" + str((10 ** 40 - 1) ** 2 // 3), 1))
        self.assertEqual(nearest("1 / " + NINES, NINES, 1000), ("0", 1))
        self.assertEqual(nearest("m^20", "2 m^20", 5), ("1", 2))

    def test_defined_units(self):
        answer = ask(define("pack", "12 mL"), near("100 mL", "pack", 10))
        self.assertEqual(answer, [2, 50, 53, 3])


class Refusals(unittest.TestCase):
    def test_ends_of_n(self):
        self.assertEqual(nearest("1/3", "1", 0), -1)
        self.assertEqual(nearest("1/3", "1", 1), ("0", 1))
        self.assertEqual(nearest("1/3", "1", 1000), ("1", 3))
        self.assertEqual(nearest("1/3", "1", 1001), -1)
        self.assertEqual(nearest("1/3", "1", -10 ** 18), -1)
        self.assertEqual(nearest("1/3", "1", 10 ** 18), -1)

    def test_range_comes_first(self):
        self.assertEqual(nearest(")", "x", 0), -1)
        self.assertEqual(nearest(")", [256], 1), -1)
        self.assertEqual(nearest("1" * 257, "1", 1), -1)

    def test_texts_in_their_order(self):
        self.assertEqual(nearest("x", ")", 1), -3)
        self.assertEqual(nearest("1", ")", 1), -1000)
        self.assertEqual(nearest("1/0", "x", 1), -4)
        self.assertEqual(nearest("m", "x", 1), -3)

    def test_not_alike_then_zero(self):
        self.assertEqual(nearest("m", "s", 1), -5)
        self.assertEqual(nearest("m", "0 s", 1), -5)
        self.assertEqual(nearest("m", "0 m", 1), -4)
        self.assertEqual(nearest("0 m", "0 m", 1), -4)


if __name__ == "__main__":
    unittest.main()
