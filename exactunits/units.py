"""The units: their words and the quantities they stand for, in the table's order."""

from exactunits.quantities import lowest
from exactunits.tokens import PERCENT, text_bytes

# The sign itself may stand in no text of this program. With its blank this can't be a name that is read.
PERCENT_WORD = "percent sign"

BASE_WORDS = ("m", "kg", "s", "mol", "K", "A")

# Exponents of the base units, then each unit with these: its word, numerator and denominator.
TABLE = (
    ((1, 0, 0, 0, 0, 0), (
        ("m", 1, 1), ("km", 1000, 1), ("dm", 1, 10), ("cm", 1, 100), ("mm", 1, 1000), ("um", 1, 1000000))),
    ((3, 0, 0, 0, 0, 0), (("L", 1, 1000), ("dL", 1, 10000), ("mL", 1, 1000000), ("uL", 1, 1000000000))),
    ((0, 1, 0, 0, 0, 0), (("kg", 1, 1), ("g", 1, 1000), ("mg", 1, 1000000), ("ug", 1, 1000000000))),
    ((0, 0, 1, 0, 0, 0), (
        ("s", 1, 1), ("ms", 1, 1000), ("min", 60, 1), ("h", 3600, 1), ("d", 86400, 1), ("wk", 604800, 1))),
    ((0, 0, 0, 1, 0, 0), (("mol", 1, 1), ("mmol", 1, 1000), ("umol", 1, 1000000))),
    ((0, 0, 0, 0, 1, 0), (("K", 1, 1), ("mK", 1, 1000))),
    ((0, 0, 0, 0, 0, 1), (("A", 1, 1), ("mA", 1, 1000))),
    ((1, 1, -2, 0, 0, 0), (("N", 1, 1),)),
    ((-1, 1, -2, 0, 0, 0), (
        ("Pa", 1, 1), ("hPa", 100, 1), ("kPa", 1000, 1), ("bar", 100000, 1), ("mbar", 100, 1), ("atm", 101325, 1),
        ("mmHg", 133322387415, 1000000000), ("cmH2O", 980665, 10000))),
    ((2, 1, -2, 0, 0, 0), (("J", 1, 1), ("kJ", 1000, 1))),
    ((2, 1, -3, 0, 0, 0), (("W", 1, 1), ("kW", 1000, 1))),
    ((2, 1, -3, 0, 0, -1), (("V", 1, 1), ("mV", 1, 1000))),
    ((2, 1, -3, 0, 0, -2), (("ohm", 1, 1),)),
    ((-2, -1, 3, 0, 0, 2), (("S", 1, 1), ("mS", 1, 1000), ("uS", 1, 1000000))),
    ((0, 0, -1, 0, 0, 0), (("Hz", 1, 1),)),
    ((0, 0, 0, 0, 0, 0), (("percent sign", 1, 100), ("ppm", 1, 1000000))),
)


def word_bytes(word):
    """The bytes of a word of the table, as names in texts are kept."""
    if word == PERCENT_WORD:
        return (PERCENT,)
    return text_bytes(word)


def unit_table():
    """A new dict from each unit's word, as bytes, to its quantity, in the table's order."""
    units = {}
    for powers, rows in TABLE:
        for word, top, bottom in rows:
            units[word_bytes(word)] = lowest(top, bottom, powers)
    return units
