"""Works out what a text that's read is worth."""

from exactunits.quantities import NO_POWERS, divided, lowest, minus, negative, plus, raised, times
from exactunits.reading import TURN
from exactunits.refusals import UnknownName
from exactunits.tokens import NAME, NUMBER, POINT, digits_value


def number_worth(body):
    """The quantity of a number's bytes."""
    if POINT not in body:
        return lowest(digits_value(body), 1, NO_POWERS)
    point = body.index(POINT)
    bottom = 1
    for digit in body[point + 1:]:
        bottom = bottom * 10
    return lowest(digits_value(body[:point] + body[point + 1:]), bottom, NO_POWERS)


def name_worth(word, units, names):
    """The quantity that a name stands for."""
    if word in units:
        return units[word]
    if word in names:
        return names[word]
    raise UnknownName()


def unknown_names(steps, units, names):
    """The names in steps that stand for nothing, each once, in the order of their first places."""
    unknown = {}
    for step in steps:
        # Steps keep the order that names have in the text.
        if step.kind == NAME and step.detail not in units and step.detail not in names:
            unknown[step.detail] = True
    return list(unknown)


def joined(kind, left, right):
    """What a sign between two quantities gives; side by side is a product as * is."""
    if kind == "+":
        return plus(left, right)
    if kind == "-":
        return minus(left, right)
    if kind == "/":
        return divided(left, right)
    return times(left, right)


def worked_out(steps, units, names):
    """The quantity that steps come to, with dicts of what words stand for."""
    values = []
    for step in steps:
        if step.kind == NUMBER:
            values.append(number_worth(step.detail))
        elif step.kind == NAME:
            values.append(name_worth(step.detail, units, names))
        elif step.kind == "^":
            values.append(raised(values.pop(), step.detail))
        elif step.kind == TURN:
            values.append(negative(values.pop()))
        else:
            right = values.pop()
            left = values.pop()
            values.append(joined(step.kind, left, right))
    return values[0]
