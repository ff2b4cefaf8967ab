"""Lays out calls for exactunits.desk.answers, and takes its answers apart."""

from exactunits.desk import answers


def numbers_of(text):
    """A text's numbers: a str stands for its bytes, a list for itself."""
    return [ord(letter) for letter in text] if isinstance(text, str) else list(text)


def call(place, numbers, texts):
    """The numbers of one call as they are handed in."""
    laid = [place, len(numbers)] + list(numbers) + [len(texts)]
    for text in texts:
        laid += [len(text)] + numbers_of(text)
    return laid


def canon(text):
    return call(0, [], [text])


def dims(text):
    return call(1, [], [text])


def show(text, unit, places, way):
    return call(2, [places, way], [text, unit])


def compare(first, second):
    return call(3, [], [first, second])


def add_up(*texts):
    return call(4, [], texts)


def sort(*texts):
    return call(5, [], texts)


def define(word, text):
    return call(6, [], [word, text])


def forget(word):
    return call(7, [], [word])


def ask_all(*calls):
    """The answers to several calls in one list, each as a list of numbers."""
    given = answers([number for laid in calls for number in laid])
    taken = []
    place = 0
    while place < len(given):
        end = place + 1 + given[place]
        taken.append(given[place + 1:end])
        place = end
    assert place == len(given) and len(taken) == len(calls), given
    return taken


def ask(*calls):
    """The last call's answer as a list of numbers."""
    return ask_all(*calls)[-1]


def told(*calls):
    """The last call's answer: a text as a str, a refusal as its number."""
    answer = ask(*calls)
    if answer[0] < 0:
        assert len(answer) == 1, answer
        return answer[0]
    assert answer[0] == len(answer) - 1, answer
    return bytes(answer[1:]).decode("ascii")


def worth(text):
    """What canon tells of a text."""
    return told(canon(text))
