"""define and forget."""

import unittest

from tests.helper import ask, ask_all, canon, compare, define, forget, told

THIRTY_TWO = [define("n%d" % number, str(number)) for number in range(32)]


class Define(unittest.TestCase):
    def test_how_many_names_there_are(self):
        self.assertEqual(ask_all(define("a", "1"), define("b", "2 m"), define("c", "a b")), [[1], [2], [3]])

    def test_it_stands_for_the_quantity(self):
        self.assertEqual(told(define("dose", "5 mg/kg"), canon("2 dose * 70 kg")), "(7/10000) kg")
        self.assertEqual(told(define("a", "2 m + 1 m"), canon("a^2")), "9 m^2")

    def test_it_keeps_its_quantity(self):
        calls = [define("a", "2"), define("b", "a + 1"), forget("a"), define("a", "10"), canon("b")]
        self.assertEqual(told(*calls), "3")

    def test_forms_of_names(self):
        for word in ("a", "Z", "a_", "x9_Y", "b" * 16, "A" + "_" * 15):
            self.assertEqual(ask(define(word, "1")), [1], word)
        for word in ("", "9", "_a", "a b", " a", "a ", "a-b", "%", "a%", "b" * 17, "a.", [228], [97, 0], [97, 255]):
            self.assertEqual(ask(define(word, "1")), [-7], word)

    def test_unit_words(self):
        self.assertEqual(ask(define("mL", "1")), [-8])
        self.assertEqual(ask(define("cmH2O", "1")), [-8])
        self.assertEqual(ask(define("ML", "1")), [1])

    def test_already_defined(self):
        self.assertEqual(ask_all(define("a", "1"), define("a", "2"), canon("a")), [[1], [-9], [1, 49]])

    def test_32_names(self):
        given = ask_all(*THIRTY_TWO, define("more", "1"), canon("n31 + n30"), canon("more"))
        self.assertEqual(given[:32], [[number] for number in range(1, 33)])
        self.assertEqual(given[32:], [[-10], [2, 54, 49], [-3]])

    def test_room_again_after_forgetting(self):
        given = ask_all(*THIRTY_TWO, forget("n5"), define("more", "n6 + 1"), define("yet", "1"), canon("more"))
        self.assertEqual(given[32:], [[31], [32], [-10], [1, 55]])

    def test_the_order_of_refusals(self):
        self.assertEqual(ask(define("9", ")")), [-7])
        self.assertEqual(ask(define("m", ")")), [-8])
        self.assertEqual(ask(define("a", "1"), define("a", ")")), [-9])
        self.assertEqual(ask(*THIRTY_TWO, define("n3", ")")), [-9])
        self.assertEqual(ask(*THIRTY_TWO, define("m", ")")), [-8])
        self.assertEqual(ask(*THIRTY_TWO, define("%", ")")), [-7])
        self.assertEqual(ask(*THIRTY_TWO, define("a", ")")), [-10])
        self.assertEqual(ask(define("a", ")")), [-1000])
        self.assertEqual(ask(define("9", [256])), [-1])
        self.assertEqual(ask(define([97, -1], "1")), [-1])
        self.assertEqual(ask(define("b" * 257, "1")), [-1])
        self.assertEqual(ask(define("b" * 256, "1")), [-7])
        self.assertEqual(ask(define("a", "1" * 257)), [-1])

    def test_the_texts_refusals(self):
        for text, refusal in (("b", -3), ("1/0", -4), ("m + s", -5), ("9^20 * 9^20 * 9^20", -6), ("(" * 41, -2)):
            self.assertEqual(ask_all(define("a", text), canon("a"), define("c", "1")), [[refusal], [-3], [1]])

    def test_a_name_is_not_known_in_its_own_text(self):
        self.assertEqual(ask(define("a", "a + 1")), [-3])


class Forget(unittest.TestCase):
    def test_how_many_names_there_are(self):
        self.assertEqual(ask_all(define("a", "1"), define("b", "2"), forget("a"), forget("b")), [[1], [2], [1], [0]])

    def test_it_stands_for_nothing_then(self):
        self.assertEqual(ask_all(define("a", "1"), forget("a"), canon("a"), forget("a"))[1:], [[0], [-3], [-11]])

    def test_the_others_stay(self):
        calls = [define("a", "1"), define("b", "2"), define("c", "3"), forget("b"), compare("a + 2", "c")]
        self.assertEqual(ask(*calls), [1])

    def test_defined_again(self):
        calls = [define("a", "1"), forget("a"), define("a", "2 m"), canon("a")]
        self.assertEqual(ask_all(*calls)[:3], [[1], [0], [1]])
        self.assertEqual(told(*calls), "2 m")

    def test_not_defined(self):
        for word in ("a", "", "m", "%", "9", "b" * 17, "b" * 256, " a", "A"):
            self.assertEqual(ask(define("a", "1"), forget("a"), forget(word)), [-11], word)
        self.assertEqual(ask(define("a", "1"), forget("A")), [-11])
        self.assertEqual(ask(define("a", "1"), forget("a ")), [-11])

    def test_ranges(self):
        self.assertEqual(ask(forget("b" * 257)), [-1])
        self.assertEqual(ask(forget([256])), [-1])
        self.assertEqual(ask(forget([97, -1])), [-1])

    def test_a_refusal_changes_nothing(self):
        self.assertEqual(ask_all(define("a", "1"), forget("b"), define("c", "3"))[2], [2])


if __name__ == "__main__":
    unittest.main()
