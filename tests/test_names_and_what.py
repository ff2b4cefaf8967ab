"""names and what."""

import unittest

from tests.helper import ask, ask_all, canon, define, forget, names, told, told_words, what

THIRTY_TWO = [define("n%d" % number, str(number)) for number in range(32)]


class Names(unittest.TestCase):
    def test_none(self):
        self.assertEqual(ask(names()), [0])

    def test_in_the_order_of_defining(self):
        calls = [define("zoo", "1"), define("a", "2"), define("M", "3")]
        self.assertEqual(told_words(*calls, names()), ["zoo", "a", "M"])
        self.assertEqual(ask(*calls, names()), [3, 3, 122, 111, 111, 1, 97, 1, 77])

    def test_forgotten(self):
        calls = [define("a", "1"), define("b", "2"), define("c", "3"), forget("b")]
        self.assertEqual(told_words(*calls, names()), ["a", "c"])
        self.assertEqual(ask(define("a", "1"), forget("a"), names()), [0])

    def test_defined_again_comes_last(self):
        calls = [define("a", "1"), define("b", "2"), define("c", "3"), forget("a"), define("a", "1")]
        self.assertEqual(told_words(*calls, names()), ["b", "c", "a"])
        self.assertEqual(told_words(*calls, forget("c"), define("e", "1"), define("c", "1"), names()),
                         ["b", "a", "e", "c"])

    def test_refusals_change_nothing(self):
        calls = [define("a", "1"), define("b", "x"), define("a", "2"), define("m", "1"), forget("c"), define("9", "1")]
        self.assertEqual(told_words(*calls, names()), ["a"])

    def test_32_names(self):
        wanted = ["n%d" % number for number in range(32)]
        self.assertEqual(told_words(*THIRTY_TWO, define("more", "1"), names()), wanted)

    def test_asking_changes_nothing(self):
        given = ask_all(define("a", "1"), names(), names(), canon("a"))
        self.assertEqual(given[1:], [[1, 1, 97], [1, 1, 97], [1, 49]])


class What(unittest.TestCase):
    def test_units_words(self):
        self.assertEqual(told(what("m")), "1 m")
        self.assertEqual(told(what("mL")), "(1/1000000) m^3")
        self.assertEqual(told(what("kPa")), "1000 m^-1 kg s^-2")
        self.assertEqual(told(what("cmH2O")), "(196133/2000) m^-1 kg s^-2")

    def test_percent(self):
        self.assertEqual(told(what("%")), "(1/100)")

    def test_names(self):
        self.assertEqual(told(define("a", "3 mL - 1 mL"), what("a")), "(1/500000) m^3")
        self.assertEqual(told(define("a", "-6/4"), what("a")), "-(3/2)")
        self.assertEqual(told(define("b" * 16, "0 kg"), what("b" * 16)), "0 kg")

    def test_a_name_keeps_its_quantity(self):
        self.assertEqual(told(define("a", "2"), define("b", "a m"), forget("a"), what("b")), "2 m")

    def test_neither(self):
        words = ["x", "", "M", "2", "2 m", "m ", " m", "(m)", "m s", "m^2", "%%", "percent sign", "-", "#", [0], [255]]
        for word in words + ["b" * 17, "b" * 256]:
            self.assertEqual(told(define("a", "1"), what(word)), -3, word)

    def test_forgotten(self):
        self.assertEqual(told(define("a", "1"), forget("a"), what("a")), -3)
        self.assertEqual(told(define("a", "1"), forget("a"), define("a", "2"), what("a")), "2")

    def test_ranges(self):
        self.assertEqual(told(what("b" * 257)), -1)
        self.assertEqual(told(what([109, 256])), -1)
        self.assertEqual(told(what([-1])), -1)


if __name__ == "__main__":
    unittest.main()
