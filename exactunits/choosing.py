"""Chooses a unit of the table for a quantity; units is the dict from words to quantities, in the table's order."""

from exactunits.quantities import alike, compared, how_often, without_sign
from exactunits.refusals import NoUnit


def alike_words(quantity, units):
    """The words of all units alike a quantity."""
    return [word for word in units if alike(units[word], quantity)]


def greatest_word(words, units):
    """The word of the greatest of some units; of several as great the first."""
    if len(words) == 0:
        raise NoUnit()
    chosen = words[0]
    for word in words[1:]:
        if compared(units[word], units[chosen]) > 0:
            chosen = word
    return chosen


def least_word(words, units):
    """The word of the least of some units; of several as great the first."""
    if len(words) == 0:
        raise NoUnit()
    chosen = words[0]
    for word in words[1:]:
        if compared(units[word], units[chosen]) < 0:
            chosen = word
    return chosen


def whole_word(quantity, units):
    """The word of the greatest unit that a quantity is a whole number of."""
    words = alike_words(quantity, units)
    return greatest_word([word for word in words if how_often(quantity, units[word]).bottom == 1], units)


def handy_word(quantity, units):
    """The word of the greatest unit that's at most as great as a quantity without its sign; else of the least."""
    words = alike_words(quantity, units)
    size = without_sign(quantity)
    small = [word for word in words if compared(units[word], size) <= 0]
    if len(small) == 0:
        return least_word(words, units)
    return greatest_word(small, units)
