"""Finds the nearest fraction with a small denominator."""


class NearFraction:
    """The fraction top/bottom; gap is how far it lies from what's sought, times bottom and a number that's the same
    for all fractions near one quantity."""

    def __init__(self, top, bottom, gap):
        self.top = top
        self.bottom = bottom
        self.gap = gap


def nearest_with(often, bottom):
    """The nearest fraction with just this bottom; of two as near the lesser."""
    below = often.top * bottom // often.bottom
    gap_below = often.top * bottom - below * often.bottom
    gap_above = often.bottom - gap_below
    if gap_below <= gap_above:
        return NearFraction(below, bottom, gap_below)
    return NearFraction(below + 1, bottom, gap_above)


def is_nearer(fraction, other):
    """Whether a fraction lies nearer than another."""
    return fraction.gap * other.bottom < other.gap * fraction.bottom


def nearest_fraction(often, most):
    """The nearest fraction with a bottom from 1 to most; of several as near that with the least bottom."""
    best = nearest_with(often, 1)
    for bottom in range(2, most + 1):
        fraction = nearest_with(often, bottom)
        if is_nearer(fraction, best):
            best = fraction
    return best
