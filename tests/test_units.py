"""Each unit of the table."""

import unittest

from exactunits.units import unit_table
from tests.helper import define, show, told, worth

# Each unit in the table's order, with its one text.
TABLE = """
m|1 m
km|1000 m
dm|(1/10) m
cm|(1/100) m
mm|(1/1000) m
um|(1/1000000) m
L|(1/1000) m^3
dL|(1/10000) m^3
mL|(1/1000000) m^3
uL|(1/1000000000) m^3
kg|1 kg
g|(1/1000) kg
mg|(1/1000000) kg
ug|(1/1000000000) kg
s|1 s
ms|(1/1000) s
min|60 s
h|3600 s
d|86400 s
wk|604800 s
mol|1 mol
mmol|(1/1000) mol
umol|(1/1000000) mol
K|1 K
mK|(1/1000) K
A|1 A
mA|(1/1000) A
N|1 m kg s^-2
Pa|1 m^-1 kg s^-2
hPa|100 m^-1 kg s^-2
kPa|1000 m^-1 kg s^-2
bar|100000 m^-1 kg s^-2
mbar|100 m^-1 kg s^-2
atm|101325 m^-1 kg s^-2
mmHg|(26664477483/200000000) m^-1 kg s^-2
cmH2O|(196133/2000) m^-1 kg s^-2
J|1 m^2 kg s^-2
kJ|1000 m^2 kg s^-2
W|1 m^2 kg s^-3
kW|1000 m^2 kg s^-3
V|1 m^2 kg s^-3 A^-1
mV|(1/1000) m^2 kg s^-3 A^-1
ohm|1 m^2 kg s^-3 A^-2
S|1 m^-2 kg^-1 s^3 A^2
mS|(1/1000) m^-2 kg^-1 s^3 A^2
uS|(1/1000000) m^-2 kg^-1 s^3 A^2
Hz|1 s^-1
%|(1/100)
ppm|(1/1000000)
"""
ROWS = [tuple(row.split("|")) for row in TABLE.split("\n") if row]


class Units(unittest.TestCase):
    def test_each_units_one_text(self):
        for word, text in ROWS:
            self.assertEqual(worth(word), text, word)

    def test_the_tables_order(self):
        words = ["".join(chr(byte) for byte in word) for word in unit_table()]
        self.assertEqual(words, [word for word, text in ROWS])

    def test_long_fractions(self):
        self.assertEqual(told(show("mmHg", "Pa", 9, 0)), "133.322387415")
        self.assertEqual(told(show("cmH2O", "Pa", 4, 0)), "98.0665")

    def test_how_units_belong_together(self):
        self.assertEqual(worth("ohm S"), "1")
        self.assertEqual(worth("W / V / A"), "1")
        self.assertEqual(worth("J / (N m)"), "1")
        self.assertEqual(worth("Hz s"), "1")

    def test_words_are_told_apart_by_their_case(self):
        for word in ("KM", "l", "G", "pA", "HZ", "percent", "a", "Mol"):
            self.assertEqual(worth(word), -3, word)

    def test_no_units_word_can_be_defined(self):
        for word, text in ROWS:
            self.assertEqual(told(define(word, "1")), -7 if word == "%" else -8, word)


if __name__ == "__main__":
    unittest.main()
