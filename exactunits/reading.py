"""Reads a text strictly: what it asks for becomes steps in the order of working out."""

from exactunits.refusals import CannotGoOn, TooDeep
from exactunits.tokens import END, NAME, NUMBER, POINT, digits_value, tokens_of

# Steps besides NUMBER, NAME and the signs.
SIDE = "side by side"
TURN = "turn the sign"

# What the tokens so far ask for next.
WANTS_EXPR = "an expr begins"
WANTS_BASE = "a base comes"
HAS_BASE = "a base is read"
WANTS_EXPONENT = "an exponent begins"
WANTS_EXPONENT_NUMBER = "an exponent's number comes"
HAS_POWER = "a power is read"

# How firmly a sign binds what stands on its sides; an open bracket holds back all before it.
STRENGTHS = {"(": 0, "+": 1, "-": 1, "turn the sign": 1, "*": 2, "/": 2, "side by side": 3}
WEAKEST = 1

MOST_DEPTH = 40
MOST_EXPONENT = 20


class Step:
    """A step of working out: its kind, and a number's or a name's bytes, or an exponent."""

    def __init__(self, kind, detail):
        self.kind = kind
        self.detail = detail


class Reader:
    """Takes a text's tokens one by one, and keeps the steps that they make."""

    def __init__(self):
        self.steps = []
        # Signs whose right side isn't read whole yet, and open brackets.
        self.waiting = []
        self.depth = 0
        self.state = WANTS_EXPR

    def take(self, token):
        """Takes the next token."""
        if self.state == WANTS_EXPR or self.state == WANTS_BASE:
            self.take_base(token)
        elif self.state == WANTS_EXPONENT or self.state == WANTS_EXPONENT_NUMBER:
            self.take_exponent(token)
        else:
            self.take_behind(token)

    def take_base(self, token):
        """Takes a token where a base comes; only an expr's beginning may have a - ahead of it."""
        if token.kind == NUMBER or token.kind == NAME:
            self.steps.append(Step(token.kind, token.body))
            self.state = HAS_BASE
        elif token.kind == "(":
            self.enter_bracket()
        elif token.kind == "-" and self.state == WANTS_EXPR:
            self.waiting.append(TURN)
            self.state = WANTS_BASE
        else:
            raise CannotGoOn(token.place)

    def take_exponent(self, token):
        """Takes a token behind ^."""
        if token.kind == "-" and self.state == WANTS_EXPONENT:
            self.state = WANTS_EXPONENT_NUMBER
        elif token.kind == NUMBER and is_exponent(token.body):
            exponent = digits_value(token.body)
            if self.state == WANTS_EXPONENT_NUMBER:
                exponent = -exponent
            self.steps.append(Step("^", exponent))
            self.state = HAS_POWER
        else:
            raise CannotGoOn(token.place)

    def take_behind(self, token):
        """Takes a token behind a base or a power that's read whole."""
        if token.kind == "^" and self.state == HAS_BASE:
            self.state = WANTS_EXPONENT
        elif token.kind == NAME:
            self.wait(SIDE)
            self.take_base(token)
        elif token.kind in ("+", "-", "*", "/"):
            self.wait(token.kind)
            self.state = WANTS_BASE
        elif token.kind == ")" and self.depth > 0:
            self.leave_bracket()
        elif token.kind == END and self.depth == 0:
            self.settle(WEAKEST)
        else:
            raise CannotGoOn(token.place)

    def enter_bracket(self):
        """Takes a ( that can go on."""
        if self.depth == MOST_DEPTH:
            raise TooDeep()
        self.depth += 1
        self.waiting.append("(")
        self.state = WANTS_EXPR

    def leave_bracket(self):
        """Takes a ) that can go on."""
        self.settle(WEAKEST)
        self.waiting.pop()
        self.depth -= 1
        self.state = HAS_BASE

    def wait(self, kind):
        """Lets a sign wait for its right side; what binds as firmly on its left is worked out first."""
        self.settle(STRENGTHS[kind])
        self.waiting.append(kind)

    def settle(self, strength):
        """Makes steps of the waiting signs that bind at least so firmly, back to the last open bracket."""
        while len(self.waiting) > 0 and STRENGTHS[self.waiting[-1]] >= strength:
            self.steps.append(Step(self.waiting.pop(), None))


def binding(kind):
    """How firmly a sign binds."""
    return STRENGTHS[kind]


def is_exponent(body):
    """Whether a number may stand behind ^."""
    return POINT not in body and digits_value(body) <= MOST_EXPONENT


def read(text):
    """The steps of a text."""
    reader = Reader()
    for token in tokens_of(text):
        reader.take(token)
    return reader.steps
