"""A second way to tidy: brackets are taken away one pair after another, as long as the text is read the same."""

import re

from tests.reference import TOKEN


class Unread(Exception):
    pass


def pieces_of(text):
    """A text's tokens, numbers and exponents written as they are to be; ^ and its exponent are one piece."""
    pieces = []
    for match in TOKEN.finditer(text):
        token = match.group()
        if pieces and pieces[-1] in ("^", "^-"):
            pieces[-1] += token if token == "-" else str(int(token))
            pieces[-1] = re.sub("^\\^-0$", "^0", pieces[-1])
        elif token[0].isdigit():
            whole, point, behind = token.partition(".")
            behind = behind.rstrip("0")
            pieces.append(str(int(whole)) + ("." + behind if behind else ""))
        else:
            pieces.append(token)
    return pieces


def is_name(piece):
    return piece[0].isalpha() or piece == "%"


class Grower:
    """Grows a nested tuple of pieces by descending through the grammar."""

    def __init__(self, pieces):
        self.pieces = pieces + ["end"]
        self.at = 0

    def take(self, *wanted):
        piece = self.pieces[self.at]
        if piece not in wanted:
            return None
        self.at += 1
        return piece

    def row(self, part, *signs):
        grown = part()
        while sign := self.take(*signs):
            grown = (sign, grown, part())
        return grown

    def expr(self):
        if not self.take("-"):
            return self.row(self.term, "+", "-")
        grown = ("turn", self.term())
        while sign := self.take("+", "-"):
            grown = (sign, grown, self.term())
        return grown

    def term(self):
        return self.row(self.chain, "*", "/")

    def chain(self):
        grown = self.power()
        while is_name(self.pieces[self.at]) and self.at < len(self.pieces) - 1:
            grown = ("side", grown, self.power())
        return grown

    def power(self):
        base = self.base()
        piece = self.pieces[self.at]
        if piece[0] != "^":
            return base
        self.at += 1
        return piece, base

    def base(self):
        if self.take("("):
            grown = self.expr()
            if not self.take(")"):
                raise Unread()
            return grown
        piece = self.pieces[self.at]
        if self.at == len(self.pieces) - 1 or not (piece[0].isdigit() or is_name(piece)):
            raise Unread()
        self.at += 1
        return piece


def tree(pieces):
    """What pieces are read as, brackets forgotten."""
    grower = Grower(pieces)
    grown = grower.expr()
    if grower.at != len(grower.pieces) - 1:
        raise Unread()
    return grown


def pairs(pieces):
    """The places of each pair of brackets."""
    found, open_ones = [], []
    for place, piece in enumerate(pieces):
        if piece == "(":
            open_ones.append(place)
        elif piece == ")":
            found.append((open_ones.pop(), place))
    return found


def same_with_fewer(pieces):
    """The pieces without one pair of brackets, read the same; None where there's no such pair."""
    for begin, end in pairs(pieces):
        fewer = pieces[:begin] + pieces[begin + 1:end] + pieces[end + 1:]
        try:
            if tree(fewer) == tree(pieces):
                return fewer
        except Unread:
            pass
    return None


def written(pieces):
    """Pieces with the blanks that are to stand between them."""
    text = ""
    for place, piece in enumerate(pieces):
        begins = place == 0 or pieces[place - 1] == "("
        if piece in ("+", "-", "*", "/") and not begins:
            text += " " + piece + " "
        elif is_name(piece) and not begins and pieces[place - 1] not in ("+", "-", "*", "/"):
            text += " " + piece
        else:
            text += piece
    return text


def tidied(text):
    """A text that can be read, written again."""
    pieces = pieces_of(text)
    while (fewer := same_with_fewer(pieces)) is not None:
        pieces = fewer
    return written(pieces)
