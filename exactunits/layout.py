"""How calls lie in the list that's handed in, and the ranges of what they hold."""

from exactunits.refusals import OutOfRange

CANON = 0
DIMS = 1
SHOW = 2
COMPARE = 3
ADD_UP = 4
SORT = 5
DEFINE = 6
FORGET = 7
NAMES = 8
WHAT = 9
SPLIT = 10
NEAR = 11
WHOLE = 12
HANDY = 13
TIDY = 14
UNKNOWN = 15

MOST_BYTES = 256
MOST_BYTE = 255
MOST_TEXTS = 16
MOST_PLACES = 12
MOST_WAY = 5
MOST_SPLIT_UNITS = 8
MOST_DENOMINATOR = 1000


class Call:
    """One call: its place, its whole numbers, its texts, and where the next call begins."""

    def __init__(self, place, numbers, texts, end):
        self.place = place
        self.numbers = numbers
        self.texts = texts
        self.end = end


def call_at(calls, start):
    """The call that begins at start."""
    numbers_end = start + 2 + calls[start + 1]
    numbers = calls[start + 2:numbers_end]
    texts = []
    end = numbers_end + 1
    for text_number in range(calls[numbers_end]):
        begin = end + 1
        end = begin + calls[end]
        texts.append(calls[begin:end])
    return Call(calls[start], numbers, texts, end)


def need_range(number, least, most):
    """Refuses a number outside its range."""
    if number < least or number > most:
        raise OutOfRange()


def need_text(text):
    """Refuses a text that's too long or holds a number that's no byte."""
    need_range(len(text), 0, MOST_BYTES)
    for byte in text:
        need_range(byte, 0, MOST_BYTE)


def need_ranges(call):
    """Refuses a call with any argument out of its range."""
    for text in call.texts:
        need_text(text)
    if call.place == SHOW or call.place == HANDY:
        need_range(call.numbers[0], 0, MOST_PLACES)
        need_range(call.numbers[1], 0, MOST_WAY)
    if call.place == ADD_UP or call.place == SORT:
        need_range(len(call.texts), 1, MOST_TEXTS)
    if call.place == SPLIT:
        # The first text is what's split.
        need_range(len(call.texts) - 1, 1, MOST_SPLIT_UNITS)
    if call.place == NEAR:
        need_range(call.numbers[0], 1, MOST_DENOMINATOR)
