"""A second way to the same answers, from the document's words: slow, by pattern and by Python's fractions."""

import re
from fractions import Fraction

from exactunits.units import unit_table

TOKEN = re.compile(r"[0-9]+(?:\.[0-9]+)?|[A-Za-z][A-Za-z0-9_]*|[^ ]", re.DOTALL)
POWER = r"[niab](?:\^-?i)?"
CHAIN = POWER + r"(?:a(?:\^-?i)?)*"
TERM = CHAIN + r"(?:[*/]" + CHAIN + ")*"
EXPR = re.compile("-?" + TERM + "(?:[-+]" + TERM + ")*")
LIMIT = 10 ** 40


class Refused(Exception):
    pass


def units():
    table = {}
    for word, quantity in unit_table().items():
        table["".join(chr(byte) for byte in word)] = (Fraction(quantity.top, quantity.bottom), quantity.powers)
    return table


def letter_of(token):
    """A token as one letter: i a number that may be an exponent, n another, a a name, w a wrong token."""
    if token[0].isdigit():
        if sum(byte.isdigit() for byte in token) > 40:
            return "w"
        return "i" if "." not in token and int(token) <= 20 else "n"
    if token[0].isalpha() and token.isascii():
        return "w" if len(token) > 16 else "a"
    if token == "%":
        return "a"
    return token if token in "+-*/^()" else "w"


def is_expr(letters):
    """Whether letters make one expr: brackets, from the innermost on, become b."""
    while True:
        inner = re.search(r"\(([^()]*)\)", letters)
        if inner is None:
            return EXPR.fullmatch(letters) is not None
        if EXPR.fullmatch(inner.group(1)) is None:
            return False
        letters = letters[:inner.start()] + "b" + letters[inner.end():]


def can_be_begun_with(letters):
    """Whether some expr begins with these letters."""
    needed = letters.count("(") - letters.count(")")
    return needed >= 0 and any(is_expr(letters + more + ")" * needed) for more in ("", "i"))


def reading_refusal(text):
    """The refusal of a text that can't be read, else None."""
    found = list(TOKEN.finditer(text))
    letters = [letter_of(match.group()) for match in found]
    for count, match in enumerate(found):
        so_far = "".join(letters[:count + 1])
        if not can_be_begun_with(so_far):
            return -1000 - match.start()
        if so_far.count("(") - so_far.count(")") > 40:
            return -2
    return None if is_expr("".join(letters)) else -1000 - len(text)


def fit(value, powers):
    if abs(value.numerator) >= LIMIT or value.denominator >= LIMIT or any(abs(power) > 20 for power in powers):
        raise Refused(-6)
    return value, tuple(powers)


class Worker:
    """Works out a text that can be read, by descending through the grammar."""

    def __init__(self, text, names):
        self.tokens = [match.group() for match in TOKEN.finditer(text)] + ["end"]
        self.at = 0
        self.names = names

    def accept(self, *tokens):
        if self.at < len(self.tokens) - 1 and self.tokens[self.at] in tokens:
            self.at += 1
            return self.tokens[self.at - 1]
        return None

    def expr(self):
        turned = self.accept("-")
        value, powers = self.term()
        if turned:
            value = -value
        while sign := self.accept("+", "-"):
            other, other_powers = self.term()
            if powers != other_powers:
                raise Refused(-5)
            value, powers = fit(value + other if sign == "+" else value - other, powers)
        return value, powers

    def term(self):
        result = self.chain()
        while sign := self.accept("*", "/"):
            result = self.join(sign, result, self.chain())
        return result

    def join(self, sign, left, right):
        if sign == "*":
            return fit(left[0] * right[0], [one + two for one, two in zip(left[1], right[1])])
        if right[0] == 0:
            raise Refused(-4)
        return fit(left[0] / right[0], [one - two for one, two in zip(left[1], right[1])])

    def chain(self):
        result = self.power()
        while self.at < len(self.tokens) - 1 and letter_of(self.tokens[self.at]) == "a":
            result = self.join("*", result, self.power())
        return result

    def power(self):
        value, powers = self.base()
        if not self.accept("^"):
            return value, powers
        below = self.accept("-")
        exponent = int(self.tokens[self.at]) * (-1 if below else 1)
        self.at += 1
        if exponent == 0:
            return Fraction(1), (0,) * 6
        if value == 0 and exponent < 0:
            raise Refused(-4)
        return fit(value ** exponent, [power * exponent for power in powers])

    def base(self):
        if self.accept("("):
            result = self.expr()
            self.accept(")")
            return result
        token = self.tokens[self.at]
        self.at += 1
        if token[0].isdigit():
            return Fraction(token), (0,) * 6
        if token not in self.names:
            raise Refused(-3)
        return self.names[token]


def worth(text, names):
    """A text's fraction and exponents; Refused with the number of its refusal."""
    refusal = reading_refusal(text)
    if refusal is not None:
        raise Refused(refusal)
    return Worker(text, names).expr()


def one_text(value, powers):
    size = abs(value)
    text = "-" if value < 0 else ""
    text += str(size) if size.denominator == 1 else "(" + str(size) + ")"
    for word, power in zip(("m", "kg", "s", "mol", "K", "A"), powers):
        if power:
            text += " " + word + ("" if power == 1 else "^" + str(power))
    return text


def canon(text, names):
    """The one text of a text, or the number of its refusal."""
    try:
        return one_text(*worth(text, names))
    except Refused as refused:
        return refused.args[0]
