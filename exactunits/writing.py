"""Writes quantities and numbers as texts, and texts as answers."""

from exactunits.quantities import multiplied_often
from exactunits.rounding import rounded
from exactunits.tokens import text_bytes
from exactunits.units import BASE_WORDS


def fraction_text(quantity):
    """A quantity's fraction, as its one text has it."""
    sign = "-" if quantity.top < 0 else ""
    top = abs(quantity.top)
    bottom = quantity.bottom
    if bottom == 1:
        return f"{sign}{top}"
    return f"{sign}({top}/{bottom})"


def power_text(word, power):
    """A base unit's word with its exponent, which isn't 0."""
    if power == 1:
        return word
    return f"{word}^{power}"


def one_text(quantity):
    """The one text of a quantity."""
    parts = [fraction_text(quantity)]
    for word, power in zip(BASE_WORDS, quantity.powers):
        if power != 0:
            parts.append(power_text(word, power))
    return " ".join(parts)


def places_text(number, places):
    """A whole number of 10^-places, told with so many places."""
    sign = "-" if number < 0 else ""
    digits = str(abs(number)).zfill(places + 1)
    if places == 0:
        return sign + digits
    point = len(digits) - places
    return sign + digits[:point] + "." + digits[point:]


def rounded_text(often, places, way):
    """A quantity without units, rounded by a way and told with so many places."""
    return places_text(rounded(often.top * multiplied_often(10, places), often.bottom, way), places)


def bytes_answer(body):
    """The numbers that answer a text whose bytes are given: how many, then they."""
    return [len(body)] + list(body)


def text_answer(text):
    """The numbers that answer a text that the program itself writes."""
    return bytes_answer(text_bytes(text))


def words_answer(words):
    """The numbers that answer several words: how many, then each as a text."""
    answer = [len(words)]
    for word in words:
        answer.extend(bytes_answer(word))
    return answer
