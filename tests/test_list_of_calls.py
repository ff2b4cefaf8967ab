"""The interface: lists of calls, ranges of texts, and what is kept."""

import unittest

from exactunits.desk import answers
from tests.helper import (
    add_up, ask, ask_all, call, canon, compare, define, dims, forget, handy, names, near, show, sort, split, tidy,
    unknown, what, whole)

EVERY_CALL = [
    canon("7"), dims("m"), show("1", "3", 2, 0), compare("1", "2"), add_up("1", "2"), sort("2", "1"),
    define("a", "1"), forget("a"), define("b", "2"), names(), what("b"), split("7", "b"), near("b", "3", 9),
    whole("b s"), handy("b s", 1, 0), tidy("(b)"), unknown("b + a")]


def with_text(text):
    """Each call with a text in each of its places."""
    calls = [canon(text), dims(text), show(text, "1", 0, 0), show("1", text, 0, 0), compare(text, "1")]
    calls += [compare("1", text), add_up(text), add_up("1", text), sort(text), sort("1", text)]
    calls += [define("a", text), define(text, "1"), forget(text), what(text), split(text, "1"), split("1", text)]
    calls += [split("1", "1", text), near(text, "1", 1), near("1", text, 1), whole(text), handy(text, 0, 0)]
    return calls + [tidy(text), unknown(text)]


class Layout(unittest.TestCase):
    def test_how_calls_are_laid_out(self):
        self.assertEqual(canon("7 m"), [0, 0, 1, 3, 55, 32, 109])
        self.assertEqual(show("1", "23", 4, 5), [2, 2, 4, 5, 2, 1, 49, 2, 50, 51])
        self.assertEqual(sort(), [5, 0, 0])
        self.assertEqual(add_up("1", ""), [4, 0, 2, 1, 49, 0])
        self.assertEqual(names(), [8, 0, 0])
        self.assertEqual(split("1", "23", "4"), [10, 0, 3, 1, 49, 2, 50, 51, 1, 52])
        self.assertEqual(near("1", "23", 4), [11, 1, 4, 2, 1, 49, 2, 50, 51])
        self.assertEqual(handy("7", 4, 5), [13, 2, 4, 5, 1, 1, 55])

    def test_answers_have_their_length_ahead(self):
        self.assertEqual(answers([0, 0, 1, 3, 55, 32, 109]), [4, 3, 55, 32, 109])
        self.assertEqual(answers([1, 0, 1, 1, 109]), [6, 21, 20, 20, 20, 20, 20])
        self.assertEqual(answers([2, 2, 1, 0, 2, 1, 49, 1, 50]), [4, 3, 48, 46, 53])
        self.assertEqual(answers([3, 0, 2, 1, 49, 1, 50]), [1, 0])
        self.assertEqual(answers([4, 0, 2, 1, 49, 1, 50]), [2, 1, 51])
        self.assertEqual(answers([5, 0, 2, 1, 50, 1, 49]), [2, 1, 0])
        self.assertEqual(answers([6, 0, 2, 1, 97, 1, 49]), [1, 1])
        self.assertEqual(answers([7, 0, 1, 1, 97]), [1, -11])
        self.assertEqual(answers([0, 0, 1, 0]), [1, -1000])
        self.assertEqual(answers([8, 0, 0]), [1, 0])
        self.assertEqual(answers([9, 0, 1, 1, 109]), [4, 3, 49, 32, 109])
        self.assertEqual(answers([10, 0, 2, 1, 55, 1, 51]), [4, 1, 50, 1, 49])
        self.assertEqual(answers([11, 1, 5, 2, 1, 49, 1, 51]), [3, 1, 49, 3])
        self.assertEqual(answers([12, 0, 1, 1, 75]), [4, 1, 75, 1, 49])
        self.assertEqual(answers([13, 2, 1, 0, 1, 1, 75]), [6, 5, 49, 46, 48, 32, 75])
        self.assertEqual(answers([14, 0, 1, 3, 40, 97, 41]), [2, 1, 97])
        self.assertEqual(answers([15, 0, 1, 1, 97]), [3, 1, 1, 97])

    def test_several_calls_in_one_list(self):
        given = ask_all(*EVERY_CALL)
        self.assertEqual(given, [
            [1, 55], [21, 20, 20, 20, 20, 20], [4, 48, 46, 51, 51], [0], [1, 51], [1, 0], [1], [0], [1],
            [1, 1, 98], [1, 50], [1, 51, 1, 49], [1, 50, 3], [1, 115, 1, 50], [5, 50, 46, 48, 32, 115], [1, 98],
            [1, 1, 97]])

    def test_400_calls(self):
        self.assertEqual(ask_all(*[compare("2", "1")] * 400), [[2]] * 400)

    def test_refusals_stand_alone_among_calls(self):
        self.assertEqual(ask_all(sort(), canon("1"), sort("x"), canon("2")), [[-1], [1, 49], [-3], [1, 50]])


class Ranges(unittest.TestCase):
    def test_texts_of_256_and_257_bytes(self):
        self.assertEqual(ask(canon("7" + " " * 255)), [1, 55])
        for laid in with_text("7" + " " * 256) + with_text([49] * 1000):
            self.assertEqual(ask(laid), [-1])

    def test_numbers_that_are_no_byte(self):
        for number in (-1, 256, -10 ** 18, 10 ** 18):
            for laid in with_text([49, number]):
                self.assertEqual(ask(laid), [-1])

    def test_bytes_at_the_ends_are_bytes(self):
        for byte in (0, 255):
            self.assertEqual(ask(canon([49, byte])), [-1001])

    def test_range_comes_before_what_is_ahead_of_it(self):
        for place in (3, 4, 5, 6):
            self.assertEqual(ask(call(place, [], [")", [256]])), [-1])
        self.assertEqual(ask(call(2, [0, 0], [")", [256]])), [-1])
        self.assertEqual(ask(split("-1", ")", [256])), [-1])
        self.assertEqual(ask(near(")", [256], 1)), [-1])


class WhatIsKept(unittest.TestCase):
    def test_the_list_stays_as_it_was(self):
        calls = [number for laid in EVERY_CALL for number in laid]
        before = list(calls)
        answers(calls)
        self.assertEqual(calls, before)

    def test_a_list_that_cant_be_changed_is_answered(self):
        class Still(list):
            def refuse(self, *arguments):
                raise AssertionError("the list was changed")
            append = clear = extend = insert = pop = remove = reverse = sort = refuse
            __setitem__ = __delitem__ = __iadd__ = __imul__ = refuse
        calls = [number for laid in EVERY_CALL for number in laid]
        self.assertEqual(answers(Still(calls)), answers(calls))

    def test_a_second_time_starts_anew(self):
        calls = define("a", "1") + canon("a")
        first = answers(calls)
        self.assertEqual(answers(calls), first)
        self.assertEqual(ask(canon("a")), [-3])
        self.assertEqual(ask(forget("a")), [-11])
        self.assertEqual(ask(names()), [0])
        self.assertEqual(ask(what("a")), [-3])
        self.assertEqual(ask(unknown("a")), [1, 1, 97])

    def test_every_call_a_second_time(self):
        calls = [number for laid in EVERY_CALL for number in laid]
        self.assertEqual(answers(calls), answers(list(calls)))

    def test_answers_are_given_back_as_a_new_list(self):
        calls = canon("7")
        first = answers(calls)
        first.append(0)
        self.assertEqual(answers(calls), [2, 1, 55])

    def test_answers_are_whole_numbers(self):
        given = answers([number for laid in EVERY_CALL for number in laid])
        self.assertEqual({type(number) for number in given}, {int})


if __name__ == "__main__":
    unittest.main()
