"""tidy: a text written again with as few brackets as can be."""

import unittest

from tests.helper import ask, canon, define, tidy, told

# What's handed in, and what it's written as again.
NUMBERS = [
    ("7", "7"), ("0", "0"), ("000", "0"), ("007", "7"), ("100", "100"), ("0100", "100"), ("0.5", "0.5"),
    ("00.5", "0.5"), ("0.50", "0.5"), ("10.010", "10.01"), ("1.0", "1"), ("0.0", "0"), ("00.00", "0"),
    ("100.00", "100"), ("0.001", "0.001"), ("1" + "0" * 39, "1" + "0" * 39), ("0" * 39 + "1", "1"),
    ("0." + "0" * 38 + "1", "0." + "0" * 38 + "1"), ("0." + "0" * 39, "0")]
BLANKS = [
    ("  1+2 ", "1 + 2"), ("a-b", "a - b"), ("a*b/c", "a * b / c"), ("- a", "-a"), ("(  -  a) b", "(-a) b"),
    ("2m", "2 m"), ("2   m  s", "2 m s"), ("50%", "50 %"), ("%%", "% %"), ("%m", "% m"), ("( 2 ) m", "2 m"),
    ("(a+b)m", "(a + b) m"), ("m ^ 2", "m^2"), ("m ^ - 2 s", "m^-2 s"), ("2^3m", "2^3 m"),
    ("300 mL/2 min", "300 mL / 2 min")]
EXPONENTS = [
    ("m^2", "m^2"), ("m^1", "m^1"), ("m^0", "m^0"), ("m^-0", "m^0"), ("m^-000", "m^0"), ("m^007", "m^7"),
    ("m^-020", "m^-20"), ("m^20", "m^20"), ("2^-1", "2^-1"), ("%^2", "%^2")]
SUMS_IN_BRACKETS = [
    ("a+(b+c)", "a + (b + c)"), ("a+(b-c)", "a + (b - c)"), ("a-(b+c)", "a - (b + c)"), ("a-(b-c)", "a - (b - c)"),
    ("a+(-b)", "a + (-b)"), ("a-(-b)", "a - (-b)"), ("-(a+b)", "-(a + b)"), ("-(a-b)", "-(a - b)"), ("-(-a)", "-(-a)"),
    ("-(-a)+b", "-(-a) + b"), ("(a+b)*c", "(a + b) * c"), ("a*(b+c)", "a * (b + c)"), ("(a-b)/c", "(a - b) / c"),
    ("a/(b-c)", "a / (b - c)"), ("(-a)*b", "(-a) * b"), ("a*(-b)", "a * (-b)"), ("(-a)/b", "(-a) / b"),
    ("a/(-b)", "a / (-b)"), ("(a+b) c", "(a + b) c"), ("(a-b) c", "(a - b) c"), ("(-a) c", "(-a) c"),
    ("(a+b)^2", "(a + b)^2"), ("(a-b)^2", "(a - b)^2"), ("(-a)^2", "(-a)^2"), ("(-2)^2", "(-2)^2"),
    ("a-(-b+c)", "a - (-b + c)"), ("(-a+b)*c", "(-a + b) * c")]
SUMS_WITHOUT = [
    ("(a+b)+c", "a + b + c"), ("(a-b)+c", "a - b + c"), ("(a+b)-c", "a + b - c"), ("(a-b)-c", "a - b - c"),
    ("(-a)+b", "-a + b"), ("(-a)-b", "-a - b"), ("(-a+b)-c", "-a + b - c"), ("(a+b)", "a + b"), ("(-a)", "-a"),
    ("((a+b)+c)+d", "a + b + c + d"), ("((-a)+b)+c", "-a + b + c")]
PRODUCTS_IN_BRACKETS = [
    ("a*(b*c)", "a * (b * c)"), ("a*(b/c)", "a * (b / c)"), ("a/(b*c)", "a / (b * c)"), ("a/(b/c)", "a / (b / c)"),
    ("(a*b) c", "(a * b) c"), ("(a/b) c", "(a / b) c"), ("(a*b)^2", "(a * b)^2"), ("(a/b)^2", "(a / b)^2")]
PRODUCTS_WITHOUT = [
    ("(a*b)*c", "a * b * c"), ("(a/b)*c", "a / b * c"), ("(a*b)/c", "a * b / c"), ("(a/b)/c", "a / b / c"),
    ("a+(b*c)", "a + b * c"), ("a-(b/c)", "a - b / c"), ("(a*b)+c", "a * b + c"), ("-(a*b)", "-a * b"),
    ("-(a/b)", "-a / b"), ("-(a*b)*c", "-a * b * c"), ("(a*b)", "a * b")]
SIDE_BY_SIDE = [
    ("(a b)^2", "(a b)^2"), ("(2 m)^-1", "(2 m)^-1"), ("(a b) c", "a b c"), ("((a b) c) d", "a b c d"),
    ("(a b)*(c d)", "a b * c d"), ("a/(b c)", "a / b c"), ("-(a b)", "-a b"), ("a+(b c)", "a + b c"),
    ("a-(b c)", "a - b c"), ("(a b)", "a b"), ("(2) m^2", "2 m^2"), ("(a b)/c", "a b / c")]
POWERS = [
    ("(a^2)^3", "(a^2)^3"), ("((a^2)^3)^4", "((a^2)^3)^4"), ("(a^0)^-0", "(a^0)^0"), ("(a^2) b", "a^2 b"),
    ("(a^2)*(b^3)", "a^2 * b^3"), ("a/(b^2)", "a / b^2"), ("-(a^2)", "-a^2"), ("(a)^2", "a^2"), ("(2)^2", "2^2"),
    ("((a+b)^2) c", "(a + b)^2 c"), ("(a^2)", "a^2"), ("a-(b^2)", "a - b^2"), ("-2^2", "-2^2")]
NESTED = [
    ("((a))", "a"), ("((((7))))", "7"), ("((a+b))*c", "(a + b) * c"), ("(((a))+((b)))", "a + b"),
    ("((a*b)+c)*d", "(a * b + c) * d"), ("(a+(b*(c+d)))", "a + b * (c + d)"), ("-((a+b)*c)", "-(a + b) * c"),
    ("((-a)*b)^2", "((-a) * b)^2"), ("(-(a+b)) c", "(-(a + b)) c"), ("-(-(-a))", "-(-(-a))"),
    ("((a+b) c)^2 d", "((a + b) c)^2 d"), ("(((a/b)/c)/(d/(e/f)))", "a / b / c / (d / (e / f))"),
    ("(a-(b-(c-d)))", "a - (b - (c - d))"), ("(((a-b)-c)-d)", "a - b - c - d"),
    ("(1.50 + 0.250)*40 mmol/(2 L)", "(1.5 + 0.25) * 40 mmol / 2 L"), ("((2 m)^2 s)*((3))", "(2 m)^2 s * 3")]
EVERY = (NUMBERS + BLANKS + EXPONENTS + SUMS_IN_BRACKETS + SUMS_WITHOUT + PRODUCTS_IN_BRACKETS + PRODUCTS_WITHOUT
         + SIDE_BY_SIDE + POWERS + NESTED)


def ones(count, first):
    """So many numbers added up, as short as can be: written again it has 4 bytes for each but the last."""
    return "+".join([first] + ["1"] * (count - 1))


class WrittenAgain(unittest.TestCase):
    def check(self, rows):
        for text, again in rows:
            self.assertEqual(told(tidy(text)), again, text)

    def test_numbers(self):
        self.check(NUMBERS)

    def test_blanks(self):
        self.check(BLANKS)

    def test_exponents(self):
        self.check(EXPONENTS)

    def test_sums_that_keep_brackets(self):
        self.check(SUMS_IN_BRACKETS)

    def test_sums_that_lose_them(self):
        self.check(SUMS_WITHOUT)

    def test_products_that_keep_brackets(self):
        self.check(PRODUCTS_IN_BRACKETS)

    def test_products_that_lose_them(self):
        self.check(PRODUCTS_WITHOUT)

    def test_things_side_by_side(self):
        self.check(SIDE_BY_SIDE)

    def test_powers(self):
        self.check(POWERS)

    def test_nested(self):
        self.check(NESTED)

    def test_40_deep(self):
        self.assertEqual(told(tidy("(" * 40 + "a" + ")" * 40)), "a")
        kept = "-(" * 40 + "-a" + ")" * 40
        self.assertEqual(told(tidy(kept)), kept)

    def test_tidied_texts_stay(self):
        for text, again in EVERY:
            self.assertEqual(told(tidy(again)), again)


class OnlyRead(unittest.TestCase):
    def test_nothing_is_worked_out(self):
        for text, again in (("1/0", "1 / 0"), ("m+s", "m + s"), ("0^-1", "0^-1"), ("9^20*(9^20)", "9^20 * 9^20")):
            self.assertEqual(told(tidy(text)), again)

    def test_names_stay_as_they_are(self):
        self.assertEqual(told(define("a", "2 m"), tidy("a  a")), "a a")
        self.assertEqual(told(tidy("Ab_9" + "_" * 12)), "Ab_9" + "_" * 12)

    def test_what_cant_be_read(self):
        texts = ["", ")", "1 +", "(1", "1.", "2 3", "a^21", "a^2.0", "a^2^2", "#", "a (b)", "--a", "b" * 17, "1" * 41]
        for text in texts:
            self.assertEqual(ask(tidy(text)), ask(canon(text)), text)
            self.assertLessEqual(ask(tidy(text))[0], -1000, text)
        self.assertEqual(told(tidy("a (b)")), -1002)
        self.assertEqual(told(tidy("(" * 41)), -2)
        self.assertEqual(told(tidy("(" * 40)), -1040)

    def test_ranges(self):
        self.assertEqual(told(tidy("7" + " " * 255)), "7")
        self.assertEqual(told(tidy("7" + " " * 256)), -1)
        self.assertEqual(told(tidy([55, 256])), -1)
        self.assertEqual(told(tidy([41, -1])), -1)


class Length(unittest.TestCase):
    def test_256_bytes(self):
        again = told(tidy(ones(64, "1000")))
        self.assertEqual(len(again), 256)
        self.assertEqual(again, ones(64, "1000").replace("+", " + "))
        self.assertEqual(told(tidy(again)), again)

    def test_257_bytes(self):
        self.assertEqual(told(tidy(ones(64, "10000"))), -15)
        self.assertEqual(told(tidy(ones(65, "1"))), -15)

    def test_far_more(self):
        self.assertEqual(told(tidy("a%" + "+a" * 127)), -15)

    def test_what_counts_is_the_text_written_again(self):
        self.assertEqual(told(tidy(ones(64, "0" * 36 + "1000"))), ones(64, "1000").replace("+", " + "))

    def test_reading_refuses_first(self):
        self.assertEqual(told(tidy(ones(100, "1") + "+")), -1200)


if __name__ == "__main__":
    unittest.main()
