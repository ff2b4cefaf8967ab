"""unknown: the names in a text that stand for nothing."""

import unittest

from tests.helper import ask, canon, define, forget, told_words, unknown


class Unknown(unittest.TestCase):
    def test_how_it_is_answered(self):
        self.assertEqual(ask(unknown("xy + z")), [2, 2, 120, 121, 1, 122])

    def test_none(self):
        self.assertEqual(ask(unknown("1 + 2")), [0])
        self.assertEqual(ask(unknown("2 m / s^2")), [0])

    def test_in_the_order_of_first_places(self):
        self.assertEqual(told_words(unknown("z + y * x")), ["z", "y", "x"])
        self.assertEqual(told_words(unknown("-(c / (b - a^2))^3 e")), ["c", "b", "a", "e"])
        self.assertEqual(told_words(unknown("2 q p + (p r)")), ["q", "p", "r"])

    def test_each_once(self):
        self.assertEqual(told_words(unknown("b a b a c b")), ["b", "a", "c"])
        self.assertEqual(told_words(unknown("x - x")), ["x"])

    def test_letters_great_and_small(self):
        self.assertEqual(told_words(unknown("Ab aB ab M m")), ["Ab", "aB", "ab", "M"])

    def test_units_words(self):
        self.assertEqual(told_words(unknown("m x mL y cmH2O")), ["x", "y"])

    def test_percent(self):
        self.assertEqual(told_words(unknown("50 % x %")), ["x"])
        self.assertEqual(ask(unknown("%")), [0])

    def test_defined_and_forgotten(self):
        calls = [define("a", "1"), define("b", "2")]
        self.assertEqual(told_words(*calls, unknown("c + b + a + e")), ["c", "e"])
        self.assertEqual(told_words(*calls, forget("b"), unknown("c + b + a + e")), ["c", "b", "e"])
        self.assertEqual(told_words(*calls, forget("b"), define("b", "3"), unknown("c + b")), ["c"])

    def test_names_of_16_bytes(self):
        self.assertEqual(told_words(unknown("b" * 16 + "+" + "b" * 15)), ["b" * 16, "b" * 15])

    def test_many_names(self):
        many = ["x%d" % number for number in range(60)]
        self.assertEqual(told_words(unknown(" ".join(many))), many)

    def test_nothing_is_worked_out(self):
        self.assertEqual(told_words(unknown("x + 1/0 + m + s + 0^-1 + y")), ["x", "y"])

    def test_asking_defines_nothing(self):
        self.assertEqual(ask(unknown("x"), canon("x")), [-3])

    def test_what_cant_be_read(self):
        for text, refusal in (("", -1000), ("x +", -1003), ("x (y)", -1002), ("b" * 17, -1000), ("x ^ y", -1004)):
            self.assertEqual(told_words(unknown(text)), refusal, text)
        self.assertEqual(told_words(unknown("(" * 41 + "x")), -2)

    def test_ranges(self):
        self.assertEqual(told_words(unknown("x" + " " * 255)), ["x"])
        self.assertEqual(told_words(unknown("x" + " " * 256)), -1)
        self.assertEqual(told_words(unknown([120, 256])), -1)
        self.assertEqual(told_words(unknown([41, -1])), -1)


if __name__ == "__main__":
    unittest.main()
