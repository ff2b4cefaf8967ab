"""The tokens that a text's bytes make."""

BLANK = 32
PERCENT = 37
POINT = 46
ZERO = 48
NINE = 57
UNDERSCORE = 95

# The kinds of tokens; a sign's kind is the sign itself.
NUMBER = "number"
NAME = "name"
WRONG = "wrong"
END = "end"
SIGNS = {43: "+", 45: "-", 42: "*", 47: "/", 94: "^", 40: "(", 41: ")"}

MOST_DIGITS = 40
MOST_NAME_BYTES = 16


class Token:
    """A token: its kind, the place of its first byte, and its bytes."""

    def __init__(self, kind, place, body):
        self.kind = kind
        self.place = place
        self.body = body


def is_digit(byte):
    """Whether a byte is a digit."""
    return ZERO <= byte <= NINE


def is_letter(byte):
    """Whether a byte is a letter, A to Z or a to z."""
    return 65 <= byte <= 90 or 97 <= byte <= 122


def is_name_byte(byte):
    """Whether a byte may stand in a name behind its first one."""
    return is_letter(byte) or is_digit(byte) or byte == UNDERSCORE


def is_name(word):
    """Whether all of a word is a letter and then at most 15 letters, digits and underscores."""
    if len(word) == 0 or len(word) > MOST_NAME_BYTES:
        return False
    return is_letter(word[0]) and all([is_name_byte(byte) for byte in word])


def digits_end(text, place):
    """The place behind the digits that follow one another from a place."""
    while place < len(text) and is_digit(text[place]):
        place += 1
    return place


def number_end(text, place):
    """The place behind a number; a point belongs to it only if a digit comes right behind."""
    end = digits_end(text, place)
    if end + 1 < len(text) and text[end] == POINT and is_digit(text[end + 1]):
        return digits_end(text, end + 1)
    return end


def name_end(text, place):
    """The place behind a name."""
    while place < len(text) and is_name_byte(text[place]):
        place += 1
    return place


def number_token(text, place):
    """The token at a place where a digit stands."""
    body = tuple(text[place:number_end(text, place)])
    if len(body) - body.count(POINT) > MOST_DIGITS:
        return Token(WRONG, place, body)
    return Token(NUMBER, place, body)


def name_token(text, place):
    """The token at a place where a letter stands."""
    body = tuple(text[place:name_end(text, place)])
    if len(body) > MOST_NAME_BYTES:
        return Token(WRONG, place, body)
    return Token(NAME, place, body)


def token_at(text, place):
    """The token at a place that's no blank."""
    byte = text[place]
    if is_digit(byte):
        return number_token(text, place)
    if is_letter(byte):
        return name_token(text, place)
    if byte == PERCENT:
        return Token(NAME, place, (byte,))
    return Token(SIGNS.get(byte, WRONG), place, (byte,))


def tokens_of(text):
    """All tokens of a text, the end behind them."""
    tokens = []
    place = 0
    while place < len(text):
        if text[place] == BLANK:
            place += 1
        else:
            token = token_at(text, place)
            tokens.append(token)
            place += len(token.body)
    tokens.append(Token(END, len(text), ()))
    return tokens


def text_bytes(text):
    """The bytes of a text that the program itself writes."""
    return tuple([ord(letter) for letter in text])


def digits_value(digits):
    """The whole number that digits tell."""
    value = 0
    for digit in digits:
        value = value * 10 + digit - ZERO
    return value
