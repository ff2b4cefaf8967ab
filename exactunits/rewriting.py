"""Writes a text that's read again, with as few brackets as can be."""

from exactunits.reading import SIDE, TURN, binding
from exactunits.refusals import TooLong
from exactunits.tokens import NAME, NUMBER, POINT, ZERO, text_bytes

# How firmly a power and a number or a name hold together: more than anything that a sign binds.
POWER_STRENGTH = 4
THING_STRENGTH = 5

MOST_WRITTEN = 256


class Part:
    """A part of the text: its bytes, and how firmly it holds together."""

    def __init__(self, body, strength):
        self.body = body
        self.strength = strength


def in_place(part, least):
    """A part's bytes, in brackets where what's around would tear it apart."""
    if part.strength >= least:
        return part.body
    return text_bytes("(") + part.body + text_bytes(")")


def without_front_zeros(digits):
    """Digits without zeros in front, but for the last digit."""
    begin = 0
    while begin < len(digits) - 1 and digits[begin] == ZERO:
        begin += 1
    return digits[begin:]


def without_end_zeros(digits):
    """Digits without zeros at the end, perhaps none."""
    end = len(digits)
    while end > 0 and digits[end - 1] == ZERO:
        end -= 1
    return digits[:end]


def number_again(body):
    """A number's bytes without needless zeros and without a needless point."""
    if POINT not in body:
        return without_front_zeros(body)
    point = body.index(POINT)
    whole = without_front_zeros(body[:point])
    behind = without_end_zeros(body[point + 1:])
    if len(behind) == 0:
        return whole
    return whole + (POINT,) + behind


def power_again(part, exponent):
    """A part with an exponent."""
    return Part(in_place(part, THING_STRENGTH) + text_bytes(f"^{exponent}"), POWER_STRENGTH)


def turned_again(part):
    """A part with a - at the beginning, which reaches as far as a term does."""
    strength = binding(TURN)
    return Part(text_bytes("-") + in_place(part, strength + 1), strength)


def joined_again(kind, left, right):
    """Two parts with a sign between; what binds as firmly may stand on its left as it is, not on its right."""
    strength = binding(kind)
    between = " " if kind == SIDE else f" {kind} "
    return Part(in_place(left, strength) + text_bytes(between) + in_place(right, strength + 1), strength)


def rewritten(steps):
    """The bytes of the text that steps are written as."""
    parts = []
    for step in steps:
        if step.kind == NUMBER:
            parts.append(Part(number_again(step.detail), THING_STRENGTH))
        elif step.kind == NAME:
            parts.append(Part(step.detail, THING_STRENGTH))
        elif step.kind == "^":
            parts.append(power_again(parts.pop(), step.detail))
        elif step.kind == TURN:
            parts.append(turned_again(parts.pop()))
        else:
            right = parts.pop()
            left = parts.pop()
            parts.append(joined_again(step.kind, left, right))
    return parts[0].body


def tidied(steps):
    """The bytes of the text that steps are written as; refused where they are too many for a text."""
    body = rewritten(steps)
    if len(body) > MOST_WRITTEN:
        raise TooLong()
    return body
