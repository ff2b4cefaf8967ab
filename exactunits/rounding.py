"""Rounds a fraction to a whole number by a way."""

DOWN = 0
UP = 1
TOWARDS_ZERO = 2
AWAY_FROM_ZERO = 3
HALF_AWAY_FROM_ZERO = 4


def rounded(top, bottom, way):
    """The whole number that top/bottom, bottom above 0, is rounded to."""
    below = top // bottom
    rest = top - below * bottom
    if rest == 0 or not goes_up(top, bottom, way):
        return below
    return below + 1


def goes_up(top, bottom, way):
    """Whether a fraction that's no whole number goes to the whole number above it."""
    if way == DOWN:
        return False
    if way == UP:
        return True
    if way == TOWARDS_ZERO:
        return top < 0
    if way == AWAY_FROM_ZERO:
        return top > 0
    below = top // bottom
    twice_rest = 2 * (top - below * bottom)
    if twice_rest != bottom:
        return twice_rest > bottom
    if way == HALF_AWAY_FROM_ZERO:
        return top > 0
    # The one way that's left takes a half to the even number.
    return below % 2 == 1
