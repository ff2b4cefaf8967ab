"""Lays out calls for exactunits.desk.answers, and takes its answers apart."""

from exactunits.desk import answers


def numbers_of(text):
    """A text's numbers: a str stands for its bytes, a list for itself."""
    return [ord(letter) for letter in text] if isinstance(text, str) else list(text)


def call(place, numbers, texts):
    """The numbers of one call as they are handed in."""
    laid = [place, len(numbers)] + list(numbers) + [len(texts)]
    for text in texts:
        laid += [len(text)] + numbers_of(text)
    return laid


def canon(text):
    return call(0, [], [text])


def dims(text):
    return call(1, [], [text])


def show(text, unit, places, way):
    return call(2, [places, way], [text, unit])


def compare(first, second):
    return call(3, [], [first, second])


def add_up(*texts):
    return call(4, [], texts)


def sort(*texts):
    return call(5, [], texts)


def define(word, text):
    return call(6, [], [word, text])


def forget(word):
    return call(7, [], [word])


def names():
    return call(8, [], [])


def what(word):
    return call(9, [], [word])


def split(text, *units):
    return call(10, [], (text,) + units)


def near(text, unit, most):
    return call(11, [most], [text, unit])


def whole(text):
    return call(12, [], [text])


def handy(text, places, way):
    return call(13, [places, way], [text])


def tidy(text):
    return call(14, [], [text])


def unknown(text):
    return call(15, [], [text])


def ask_all(*calls):
    """The answers to several calls in one list, each as a list of numbers."""
    given = answers([number for laid in calls for number in laid])
    taken = []
    place = 0
    while place < len(given):
        end = place + 1 + given[place]
        taken.append(given[place + 1:end])
        place = end
    assert place == len(given) and len(taken) == len(calls), given
    return taken


def ask(*calls):
    """The last call's answer as a list of numbers."""
    return ask_all(*calls)[-1]


def told(*calls):
    """The last call's answer: a text as a str, a refusal as its number."""
    taken = told_parts(*calls)
    if isinstance(taken, int):
        return taken
    assert len(taken) == 1, taken
    return taken[0]


def parts(answer):
    """The texts that an answer is made of, one behind another, as strs."""
    taken = []
    place = 0
    while place < len(answer):
        end = place + 1 + answer[place]
        taken.append(bytes(answer[place + 1:end]).decode("ascii"))
        place = end
    assert place == len(answer), answer
    return taken


def refusal_or(answer, taken):
    """A refusal as its number, any other answer as it's taken apart."""
    if answer[0] < 0:
        assert len(answer) == 1, answer
        return answer[0]
    return taken(answer)


def counted_parts(answer):
    """The texts of an answer that tells how many they are, then each."""
    taken = parts(answer[1:])
    assert answer[0] == len(taken), answer
    return taken


def told_parts(*calls):
    """The last call's answer, texts one behind another; a refusal as its number."""
    return refusal_or(ask(*calls), parts)


def told_words(*calls):
    """The last call's answer, how many texts and then these; a refusal as its number."""
    return refusal_or(ask(*calls), counted_parts)


def worth(text):
    """What canon tells of a text."""
    return told(canon(text))
