"""What texts are worth: canon and dims, the operations and their refusals."""

import unittest

from tests.helper import ask, canon, define, dims, told, worth

NINES = "9" * 40
TEN_TO_39 = "1" + "0" * 39


class Canon(unittest.TestCase):
    def test_the_documents_texts(self):
        self.assertEqual(worth("-1500 L / s"), "-(3/2) m^3 s^-1")
        self.assertEqual(worth("0 g"), "0 kg")
        self.assertEqual(worth("7"), "7")
        self.assertEqual(worth("2.4 L"), "(3/1250) m^3")
        self.assertEqual(worth("13 mL/kg/h"), "(13/3600000000) m^3 kg^-1 s^-1")
        self.assertEqual(worth("(1.5 + 0.25) * 40 mmol / (2 L)"), "35 m^-3 mol")

    def test_all_base_units_in_their_order(self):
        self.assertEqual(worth("A K mol s kg m"), "1 m kg s mol K A")
        self.assertEqual(worth("1/(A K^2 mol s kg m)"), "1 m^-1 kg^-1 s^-1 mol^-1 K^-2 A^-1")

    def test_zero_is_zero_over_one(self):
        self.assertEqual(worth("0/7"), "0")
        self.assertEqual(worth("-0"), "0")
        self.assertEqual(worth("0 / (-3 m)"), "0 m^-1")
        self.assertEqual(worth("1/3 - 1/3"), "0")

    def test_answer_is_the_length_and_the_bytes(self):
        self.assertEqual(ask(canon("7 m")), [3, 55, 32, 109])


class Dims(unittest.TestCase):
    def test_exponents_and_20(self):
        self.assertEqual(ask(dims("1")), [20, 20, 20, 20, 20, 20])
        self.assertEqual(ask(dims("V")), [22, 21, 17, 20, 20, 19])
        self.assertEqual(ask(dims("mol K^2")), [20, 20, 20, 21, 22, 20])
        self.assertEqual(ask(dims("0 kg")), [20, 21, 20, 20, 20, 20])

    def test_the_ends(self):
        self.assertEqual(ask(dims("m^20 s^-20")), [40, 20, 0, 20, 20, 20])
        self.assertEqual(ask(dims("m^20 m")), [-6])
        self.assertEqual(ask(dims("s^-20 / s")), [-6])

    def test_refusals(self):
        self.assertEqual(ask(dims("")), [-1000])
        self.assertEqual(ask(dims("x")), [-3])
        self.assertEqual(ask(dims("m + s")), [-5])
        self.assertEqual(ask(dims("1/0")), [-4])
        self.assertEqual(ask(dims("(" * 41)), [-2])


class Binding(unittest.TestCase):
    def test_side_by_side_binds_more_than_times(self):
        self.assertEqual(worth("300 mL / 2 min"), "(1/400000) m^3 s^-1")
        self.assertEqual(worth("1 / 2 m"), "(1/2) m^-1")
        self.assertEqual(worth("6 / 2 * 3"), "9")

    def test_power_binds_most(self):
        self.assertEqual(worth("-2^2"), "-4")
        self.assertEqual(worth("(-2)^2"), "4")
        self.assertEqual(worth("2 m^2"), "2 m^2")
        self.assertEqual(worth("(2 m)^2"), "4 m^2")
        self.assertEqual(worth("2^3 m"), "8 m")

    def test_minus_belongs_to_the_first_term(self):
        self.assertEqual(worth("-2 + 3"), "1")
        self.assertEqual(worth("-2 * 3 + 1"), "-5")
        self.assertEqual(worth("-2 - 3"), "-5")
        self.assertEqual(worth("-2 m / 4 s"), "-(1/2) m s^-1")

    def test_from_the_left(self):
        self.assertEqual(worth("10 - 3 - 2"), "5")
        self.assertEqual(worth("10 - 3 + 2"), "9")
        self.assertEqual(worth("10 - (3 + 2)"), "5")
        self.assertEqual(worth("24 / 4 / 2"), "3")
        self.assertEqual(worth("24 / (4 / 2)"), "12")
        self.assertEqual(worth("1 + 2 * 3"), "7")
        self.assertEqual(worth("(1 + 2) * 3"), "9")


class Operations(unittest.TestCase):
    def test_sums_need_alike(self):
        self.assertEqual(worth("1 km + 1 m - 1 cm"), "(100099/100) m")
        self.assertEqual(worth("m + s"), -5)
        self.assertEqual(worth("m - 1"), -5)
        self.assertEqual(worth("0 m + 1 kg"), -5)
        self.assertEqual(worth("J + N m"), "2 m^2 kg s^-2")

    def test_division_by_zero(self):
        self.assertEqual(worth("1 / 0"), -4)
        self.assertEqual(worth("0 / 0"), -4)
        self.assertEqual(worth("m / (0 kg)"), -4)
        self.assertEqual(worth("1 / (1 - 1)"), -4)
        self.assertEqual(worth("m^20 / (0 m^-20)"), -4)

    def test_division_by_what_is_below_zero(self):
        self.assertEqual(worth("3 / (-2)"), "-(3/2)")
        self.assertEqual(worth("(-3) / (-2)"), "(3/2)")

    def test_powers(self):
        self.assertEqual(worth("(2 m / 3 s)^-3"), "(27/8) m^-3 s^3")
        self.assertEqual(worth("(-2/3)^-3"), "-(27/8)")
        self.assertEqual(worth("(-2)^-2"), "(1/4)")
        self.assertEqual(worth("(5 m)^1"), "5 m")

    def test_power_zero_has_no_units(self):
        self.assertEqual(worth("(5 m)^0"), "1")
        self.assertEqual(worth("0^0"), "1")
        self.assertEqual(worth("(0 m)^-0"), "1")
        self.assertEqual(worth("(0 m)^2"), "0 m^2")

    def test_power_below_zero_of_zero(self):
        self.assertEqual(worth("0^-1"), -4)
        self.assertEqual(worth("(0 m)^-20"), -4)
        self.assertEqual(worth("(0 m^5)^-5"), -4)

    def test_names_that_stand_for_nothing(self):
        self.assertEqual(worth("x"), -3)
        self.assertEqual(worth("2 M"), -3)
        self.assertEqual(worth("pa"), -3)


class TooLarge(unittest.TestCase):
    def test_sums_that_just_fit(self):
        self.assertEqual(worth(NINES[:-1] + "8 + 1"), NINES)
        self.assertEqual(worth(NINES + " + 1"), -6)
        self.assertEqual(worth("-" + NINES + " - 1"), -6)
        self.assertEqual(worth("-" + NINES + " + 1"), "-" + NINES[:-1] + "8")

    def test_products_that_just_fit(self):
        self.assertEqual(worth("1" + "0" * 38 + " * 10"), TEN_TO_39)
        self.assertEqual(worth(TEN_TO_39 + " * 10"), -6)
        self.assertEqual(worth("(-" + TEN_TO_39 + ") * 10"), -6)
        self.assertEqual(worth(TEN_TO_39 + " km"), -6)

    def test_denominators(self):
        self.assertEqual(worth("1 / " + NINES), "(1/" + NINES + ")")
        self.assertEqual(worth("1 / " + TEN_TO_39 + " / 10"), -6)
        self.assertEqual(worth("0.1 / " + TEN_TO_39), -6)

    def test_it_is_asked_in_lowest_terms(self):
        self.assertEqual(worth(TEN_TO_39 + " * (10 / 10)"), TEN_TO_39)
        self.assertEqual(worth(TEN_TO_39 + " / 3 * 30 / 10"), -6)
        self.assertEqual(worth(TEN_TO_39 + " / " + TEN_TO_39), "1")
        self.assertEqual(worth("(1 / " + TEN_TO_39 + ") * " + TEN_TO_39), "1")

    def test_each_result_is_asked(self):
        self.assertEqual(worth("0 * (" + TEN_TO_39 + " * 10)"), -6)
        self.assertEqual(worth(TEN_TO_39 + " * 10 / 10"), -6)
        self.assertEqual(worth("m^20 m / m"), -6)

    def test_powers_in_one_step(self):
        self.assertEqual(worth("99^20"), str(99 ** 20))
        self.assertEqual(worth("100^20"), -6)
        self.assertEqual(worth("100^19"), "1" + "0" * 38)
        self.assertEqual(worth("100^-19"), "(1/1" + "0" * 38 + ")")
        self.assertEqual(worth("100^-20"), -6)
        self.assertEqual(worth("(-99)^19"), "-" + str(99 ** 19))
        self.assertEqual(worth(NINES + "^20"), -6)

    def test_exponents(self):
        self.assertEqual(worth("(m^2)^10"), "1 m^20")
        self.assertEqual(worth("(m^2)^-10"), "1 m^-20")
        self.assertEqual(worth("(m^3)^7"), -6)
        self.assertEqual(worth("(m^3)^-7"), -6)
        self.assertEqual(worth("m^20 * m"), -6)
        self.assertEqual(worth("A^-20 / A"), -6)
        self.assertEqual(worth("0 K^20 K"), -6)
        self.assertEqual(worth("(0 m^5)^5"), -6)


class Order(unittest.TestCase):
    def test_the_first_thing_from_the_left(self):
        self.assertEqual(worth("x + 1/0"), -3)
        self.assertEqual(worth("1/0 + x"), -4)
        self.assertEqual(worth("(m + s) + x"), -5)
        self.assertEqual(worth("m + s + x"), -5)
        self.assertEqual(worth("m + s x"), -3)
        self.assertEqual(worth("m + s * x"), -3)
        self.assertEqual(worth("1 / 0 x"), -3)
        self.assertEqual(worth("1 / 0 * x"), -4)
        self.assertEqual(worth("m + 1 / 0"), -4)
        self.assertEqual(worth("m - (s - 1/0)"), -4)
        self.assertEqual(worth(NINES + " + 1 + x"), -6)
        self.assertEqual(worth("0^-1 x"), -4)
        self.assertEqual(worth("m x^2 y"), -3)
        self.assertEqual(worth("m^20 m 0^-1"), -1007)
        self.assertEqual(worth("m^20 m * 0^-1"), -6)

    def test_not_alike_comes_before_too_large(self):
        self.assertEqual(worth(NINES + " + " + NINES + " m"), -5)

    def test_defined_names(self):
        self.assertEqual(told(define("x", "2 m"), canon("x^2 / s + 1 m^2 / s")), "5 m^2 s^-1")
        self.assertEqual(told(define("x", "0"), canon("1 / x")), -4)


if __name__ == "__main__":
    unittest.main()
