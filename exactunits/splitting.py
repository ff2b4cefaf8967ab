"""Splits a quantity into units."""

from exactunits.quantities import divided, minus, need_alike, times, whole_number
from exactunits.refusals import BelowZero, NotAboveZero


def need_splittable(quantity):
    """Refuses to split a quantity below 0."""
    if quantity.top < 0:
        raise BelowZero()


def need_split_unit(quantity, unit):
    """Refuses to split a quantity into what isn't alike or isn't above 0."""
    need_alike(quantity, unit)
    if unit.top <= 0:
        raise NotAboveZero()


def often_taken(left, unit):
    """How often a unit goes whole into what's left; the quotient itself has to fit."""
    quotient = divided(left, unit)
    return quotient.top // quotient.bottom


def less_units(left, often, unit):
    """What's left when a unit is taken so often; so many units have to fit too."""
    return minus(left, times(whole_number(often), unit))
