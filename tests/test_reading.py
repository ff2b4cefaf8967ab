"""Texts: tokens, the grammar, and the first token that can't go on."""

import unittest

from tests.helper import call, compare, define, told, worth

NINES = "9" * 40


class Tokens(unittest.TestCase):
    def test_blanks_stand_between_tokens(self):
        self.assertEqual(worth("  2  m "), "2 m")
        self.assertEqual(worth("2m"), "2 m")
        self.assertEqual(worth("2 ^ - 1"), "(1/2)")
        self.assertEqual(worth("1 2"), -1002)

    def test_only_byte_32_is_a_blank(self):
        for byte in (0, 9, 10, 13, 31, 33, 160):
            self.assertEqual(worth([50, byte, 109]), -1001)

    def test_every_other_byte_is_a_wrong_token(self):
        known = "0123456789+-*/^()% " + "ABCDEFGHIJKLMNOPQRSTUVWXYZabcdefghijklmnopqrstuvwxyz"
        for byte in range(256):
            if byte not in [ord(letter) for letter in known]:
                self.assertEqual(worth([byte]), -1000, byte)
                self.assertEqual(worth([49, 32, byte, 49]), -1002, byte)

    def test_number_with_a_point(self):
        self.assertEqual(worth("2.50"), "(5/2)")
        self.assertEqual(worth("0.0"), "0")
        self.assertEqual(worth("007.5"), "(15/2)")

    def test_point_needs_digits_on_both_sides(self):
        self.assertEqual(worth("1."), -1001)
        self.assertEqual(worth("1. 5"), -1001)
        self.assertEqual(worth("1 .5"), -1002)
        self.assertEqual(worth(".5"), -1000)
        self.assertEqual(worth("1.2.3"), -1003)
        self.assertEqual(worth("1..2"), -1001)
        self.assertEqual(worth("1.m"), -1001)

    def test_40_and_41_digits(self):
        self.assertEqual(worth(NINES), NINES)
        self.assertEqual(worth("1 + " + NINES + "9"), -1004)
        self.assertEqual(worth("0" * 39 + "7"), "7")
        self.assertEqual(worth("0" * 40 + "7"), -1000)
        self.assertEqual(worth("0." + "0" * 38 + "5"), "(1/2" + "0" * 38 + ")")
        self.assertEqual(worth("0." + "0" * 39 + "5"), -1000)
        self.assertEqual(worth("9" * 20 + "." + "0" * 20), "9" * 20)
        self.assertEqual(worth("9" * 20 + "." + "0" * 21), -1000)

    def test_name_ends_where_its_bytes_end(self):
        self.assertEqual(worth("2m3"), -3)
        self.assertEqual(worth("1e5"), -3)
        self.assertEqual(worth("_m"), -1000)
        self.assertEqual(told(define("a_1B", "4"), call(0, [], ["a_1B-a_1B*2"])), "-4")
        self.assertEqual(told(define("z", "5"), define("Z", "6"), call(0, [], ["Z/z"])), "(6/5)")

    def test_names_of_16_and_17_bytes(self):
        self.assertEqual(worth("a" * 16), -3)
        self.assertEqual(worth("a" * 17), -1000)
        self.assertEqual(worth("2 " + "a" * 17), -1002)
        self.assertEqual(told(define("b" * 16, "3"), call(0, [], ["b" * 16])), "3")

    def test_percent_is_a_name_of_one_byte(self):
        self.assertEqual(worth("50%"), "(1/2)")
        self.assertEqual(worth("50 %%"), "(1/200)")
        self.assertEqual(worth("%m"), "(1/100) m")
        self.assertEqual(worth("m%"), "(1/100) m")
        self.assertEqual(worth("%^2"), "(1/10000)")
        self.assertEqual(worth("%2"), -1001)


class Grammar(unittest.TestCase):
    def test_empty_texts(self):
        self.assertEqual(worth(""), -1000)
        self.assertEqual(worth("   "), -1003)
        self.assertEqual(worth(" " * 256), -1256)

    def test_the_end_counts_the_text_whole(self):
        self.assertEqual(worth("1 +"), -1003)
        self.assertEqual(worth("1 +  "), -1005)
        self.assertEqual(worth("(1 "), -1003)
        self.assertEqual(worth("-"), -1001)
        self.assertEqual(worth("2^"), -1002)
        self.assertEqual(worth("2^-"), -1003)

    def test_minus_only_where_an_expr_begins(self):
        self.assertEqual(worth("-3"), "-3")
        self.assertEqual(worth("(-3)"), "-3")
        self.assertEqual(worth("2 * (-3)"), "-6")
        self.assertEqual(worth("2 * -3"), -1004)
        self.assertEqual(worth("2 - -3"), -1004)
        self.assertEqual(worth("--3"), -1001)
        self.assertEqual(worth("-(-3)"), "3")
        self.assertEqual(worth("+3"), -1000)

    def test_side_by_side_only_with_names(self):
        self.assertEqual(worth("2 m s"), "2 m s")
        self.assertEqual(worth("(2) m"), "2 m")
        self.assertEqual(worth("m^2 s^-1"), "1 m^2 s^-1")
        self.assertEqual(worth("m 2"), -1002)
        self.assertEqual(worth("2 (m)"), -1002)
        self.assertEqual(worth("m (2)"), -1002)
        self.assertEqual(worth("(2)(3)"), -1003)
        self.assertEqual(worth("2^2 3"), -1004)

    def test_exponents(self):
        self.assertEqual(worth("2^20"), "1048576")
        self.assertEqual(worth("2^-20"), "(1/1048576)")
        self.assertEqual(worth("2^00000020"), "1048576")
        self.assertEqual(worth("2^" + "0" * 38 + "20"), "1048576")
        self.assertEqual(worth("2^" + "0" * 39 + "20"), -1002)
        self.assertEqual(worth("2^-0"), "1")
        self.assertEqual(worth("2^21"), -1002)
        self.assertEqual(worth("2^-21"), -1003)
        self.assertEqual(worth("2^ - 100"), -1005)
        self.assertEqual(worth("2^2.0"), -1002)
        self.assertEqual(worth("2^+2"), -1002)
        self.assertEqual(worth("2^--2"), -1003)
        self.assertEqual(worth("2^m"), -1002)
        self.assertEqual(worth("2^(2)"), -1002)
        self.assertEqual(worth("2^2^2"), -1003)
        self.assertEqual(worth("(2^2)^2"), "16")

    def test_brackets_and_signs_out_of_place(self):
        self.assertEqual(worth(")"), -1000)
        self.assertEqual(worth("()"), -1001)
        self.assertEqual(worth("1)"), -1001)
        self.assertEqual(worth("(1))"), -1003)
        self.assertEqual(worth("((1)"), -1004)
        self.assertEqual(worth("1 */ 2"), -1003)
        self.assertEqual(worth("^2"), -1000)
        self.assertEqual(worth("(1 +)"), -1004)

    def test_the_first_token_that_cant_go_on_is_told(self):
        self.assertEqual(worth("1 + # + )"), -1004)
        self.assertEqual(worth("1 ) #"), -1002)
        self.assertEqual(worth("1 2 " + "a" * 17), -1002)

    def test_reading_comes_before_working_out(self):
        self.assertEqual(worth("nothing + 1 / 0 + (m + s) + )"), -1028)

    def test_a_text_of_256_bytes_told_to_its_end(self):
        self.assertEqual(worth("1+" * 128), -1256)
        self.assertEqual(worth("1+" * 127 + "1"), "128")


class Depth(unittest.TestCase):
    def test_40_open_brackets(self):
        self.assertEqual(worth("(" * 40 + "1" + ")" * 40), "1")
        self.assertEqual(worth("-(" * 40 + "3" + ")" * 40), "3")
        self.assertEqual(worth("(" * 40), -1040)

    def test_41_open_brackets(self):
        self.assertEqual(worth("(" * 41 + "1" + ")" * 41), -2)
        self.assertEqual(worth("(" * 41 + "#"), -2)
        self.assertEqual(worth("1 + (" * 41), -2)

    def test_only_open_ones_count(self):
        self.assertEqual(worth("(1)" + "+(1)" * 60), "61")
        nest = "(" * 40 + "1" + ")" * 40
        self.assertEqual(worth(nest + "+" + nest), "2")
        self.assertEqual(worth("(" * 40 + "1)+(1" + ")" * 40), "2")
        self.assertEqual(worth("(" * 40 + "1)+((1" + ")" * 41), -2)

    def test_what_cant_go_on_before_or_at_it_is_told_instead(self):
        self.assertEqual(worth(")" + "(" * 41), -1000)
        self.assertEqual(worth("(" * 40 + "2("), -1041)
        self.assertEqual(worth("#" + "(" * 41), -1000)

    def test_a_too_deep_second_text_comes_behind_the_first(self):
        self.assertEqual(told(compare("x", "(" * 41)), -3)
        self.assertEqual(told(compare("(" * 41, "x")), -2)


if __name__ == "__main__":
    unittest.main()
