"""Promises 4.1 to 4.4, and 0.3 where it speaks of them."""

import copy
import unittest

from backtape.asking import (
    changes, last_change, last_so, last_visit, moments_so, next_change, next_so, said_at, spread, sum_at, visits,
    when_said, worth_at,
)
from backtape.errors import NoMoment, NoThing
from backtape.tapes import Tape
from helper import NO_THINGS, STOP, THINGS, cell, kinds, name, num

# Four rounds with the worths of ASKED; the last moment is 23.
PROGRAM = (
    ("ask", "a"),
    ("set", "b", ("add", name("b"), name("a"))),
    ("put", name("b"), name("a")),
    ("say", name("b")),
    ("unless", ("less", name("b"), num(10)), 6),
    ("jump", 0),
    STOP,
)
ASKED = [3, 4, 0, 5]
LAST = 23
WORTHS = {
    "a": [0] * 1 + [3] * 6 + [4] * 6 + [0] * 6 + [5] * 5,
    "b": [0] * 2 + [3] * 6 + [7] * 12 + [12] * 4,
    3: [0] * 3 + [3] * 6 + [4] * 6 + [0] * 9,
    0: [0] * 21 + [5] * 3,
}
CHANGES = {"a": [1, 7, 13, 19], "b": [2, 8, 20], 3: [3, 9, 15], 0: [21]}
SO = ("less", num(3), name("a"))
MOMENTS_SO = [7, 8, 9, 10, 11, 12, 19, 20, 21, 22, 23]
VISITS = [[0, 6, 12, 18], [1, 7, 13, 19], [2, 8, 14, 20], [3, 9, 15, 21], [4, 10, 16, 22], [5, 11, 17], [23]]
SAID = {4: [3], 10: [3, 7], 16: [3, 7, 7], 22: [3, 7, 7, 12]}
NO_MOMENTS = (-1, -2, LAST + 1, LAST + 2, 100, 101, 10006)


def tapes():
    """New tapes of the run, marked near and far."""
    return [Tape(PROGRAM, ASKED, every, most) for every in (1, 2, 3, 7, 100) for most in (LAST, 100)]


def last_up_to(moments, moment):
    return max([one for one in moments if one <= moment], default=None)


def first_from(moments, moment):
    return min([one for one in moments if one >= moment], default=None)


class Told(unittest.TestCase):
    def tells(self, wanted, ask, *parts):
        """The question, of new tapes and again; it changes neither what is looked at nor what is handed in."""
        before = copy.deepcopy(parts)
        for tape in tapes():
            tape.to(5)
            self.same(ask(tape, *parts), wanted)
            self.same(ask(tape, *parts), wanted)
            self.same(tape.moment(), 5)
        self.same(parts, before)

    def same(self, told, wanted):
        self.assertEqual(kinds(told), kinds(wanted))

    def refuses(self, error, ask, *parts):
        for tape in tapes():
            tape.to(5)
            with self.assertRaises(error, msg=parts):
                ask(tape, *parts)
            self.same(tape.moment(), 5)

    def new_each_time(self, ask, *parts):
        tape = tapes()[0]
        wanted = ask(tape, *parts)
        self.assertNotEqual(wanted, [])
        ask(tape, *parts).clear()
        ask(tape, *parts).append(None)
        self.same(ask(tape, *parts), wanted)


class WorthsTest(Told):
    def test_the_run_has_its_last_moment(self):
        for tape in tapes():
            self.assertEqual(tape.end(), LAST)

    def test_worth_at(self):
        for thing in THINGS:
            for moment in range(LAST + 1):
                self.tells(WORTHS.get(thing, [0] * (LAST + 1))[moment], worth_at, moment, thing)

    def test_sum_at(self):
        for moment in range(LAST + 1):
            self.tells(WORTHS["a"][moment], sum_at, moment, name("a"))
            self.tells(1 if moment in MOMENTS_SO else 0, sum_at, moment, SO)
            self.tells(8, sum_at, moment, num(8))
        self.tells(4, sum_at, 9, cell(name("b")))
        self.tells(3, sum_at, 8, cell(name("b")))
        self.tells(17, sum_at, LAST, ("add", name("a"), name("b")))
        self.tells(10004, sum_at, 1, ("sub", num(0), name("a")))

    def test_sums_of_more_than_fifteen_parts(self):
        term = name("a")
        for _ in range(20):
            term = ("add", term, num(1))
        self.tells(24, sum_at, 7, term)
        self.tells(list(range(LAST + 1)), moments_so, term)
        self.tells(9, last_so, 9, term)
        self.tells(9, next_so, 9, term)

    def test_no_thing(self):
        for thing in NO_THINGS:
            self.refuses(NoThing, changes, thing)
            self.refuses(NoThing, spread, thing)
            for moment in (0, 9, LAST):
                for ask in (worth_at, last_change, next_change):
                    self.refuses(NoThing, ask, moment, thing)

    def test_no_moment(self):
        for moment in NO_MOMENTS:
            for thing in ("a", "f", 0, 3):
                for ask in (worth_at, last_change, next_change):
                    self.refuses(NoMoment, ask, moment, thing)
            for ask in (sum_at, last_so, next_so):
                self.refuses(NoMoment, ask, moment, SO)
                self.refuses(NoMoment, ask, moment, num(0))
                self.refuses(NoMoment, ask, moment, num(1))
            for row in (0, 6, 7):
                self.refuses(NoMoment, last_visit, moment, row)
            self.refuses(NoMoment, said_at, moment)


class ChangesTest(Told):
    def test_changes(self):
        for thing in THINGS:
            self.tells(CHANGES.get(thing, []), changes, thing)

    def test_last_change(self):
        for thing in THINGS:
            for moment in range(LAST + 1):
                self.tells(last_up_to(CHANGES.get(thing, []), moment), last_change, moment, thing)

    def test_next_change(self):
        for thing in THINGS:
            for moment in range(LAST + 1):
                self.tells(first_from(CHANGES.get(thing, []), moment + 1), next_change, moment, thing)

    def test_known_changes(self):
        self.tells(None, last_change, 0, "a")
        self.tells(1, last_change, 1, "a")
        self.tells(1, last_change, 6, "a")
        self.tells(1, next_change, 0, "a")
        self.tells(7, next_change, 1, "a")
        self.tells(None, next_change, 19, "a")
        self.tells(None, next_change, LAST, "a")
        self.tells(None, last_change, LAST, "f")
        self.tells(None, next_change, 0, "f")

    def test_a_step_that_gives_the_same_worth_is_no_change(self):
        rows = [("set", "a", num(worth)) for worth in (0, 4, 4, 5, 4, 4)]
        tape = Tape(tuple(rows), [], 2, 50)
        self.same(changes(tape, "a"), [2, 4, 5])
        self.same([last_change(tape, moment, "a") for moment in range(7)], [None, None, 2, 2, 4, 5, 5])
        self.same([next_change(tape, moment, "a") for moment in range(7)], [2, 2, 4, 4, 5, None, None])

    def test_a_run_without_steps(self):
        tape = Tape((), [], 1, 9)
        self.same(changes(tape, "a"), [])
        self.same([last_change(tape, 0, 3), next_change(tape, 0, 3)], [None, None])

    def test_a_run_that_most_ends(self):
        tape = Tape((("set", "a", ("add", name("a"), num(1))), ("jump", 0)), [], 3, 6)
        self.same(changes(tape, "a"), [1, 3, 5])
        self.same([next_change(tape, 4, "a"), next_change(tape, 5, "a"), next_change(tape, 6, "a")], [5, None, None])
        self.same(last_change(tape, 6, "a"), 5)

    def test_lists_are_new_ones_each_time(self):
        self.new_each_time(changes, "a")


class SoTest(Told):
    def test_moments_so(self):
        self.tells(MOMENTS_SO, moments_so, SO)
        self.tells([], moments_so, num(0))
        self.tells(list(range(LAST + 1)), moments_so, num(1))
        self.tells(list(range(LAST + 1)), moments_so, num(10006))
        self.tells([0], moments_so, ("less", ("add", name("a"), name("b")), num(1)))
        self.tells([21, 22, 23], moments_so, cell(num(0)))

    def test_last_so_and_next_so(self):
        for moment in range(LAST + 1):
            self.tells(last_up_to(MOMENTS_SO, moment), last_so, moment, SO)
            self.tells(first_from(MOMENTS_SO, moment), next_so, moment, SO)
            self.tells(moment, last_so, moment, num(2))
            self.tells(moment, next_so, moment, num(2))
            self.tells(None, last_so, moment, num(0))
            self.tells(None, next_so, moment, num(0))

    def test_none_behind_and_none_ahead(self):
        early = ("less", name("b"), num(1))
        self.tells(1, last_so, LAST, early)
        self.tells(1, next_so, 1, early)
        self.tells(None, next_so, 2, early)
        late = cell(num(0))
        self.tells(None, last_so, 20, late)
        self.tells(21, last_so, 21, late)
        self.tells(21, next_so, 0, late)
        self.tells(LAST, next_so, LAST, late)

    def test_lists_are_new_ones_each_time(self):
        self.new_each_time(moments_so, SO)


class VisitsTest(Told):
    def test_visits(self):
        for row, wanted in enumerate(VISITS):
            self.tells(wanted, visits, row)

    def test_last_visit(self):
        for row, wanted in enumerate(VISITS):
            for moment in range(LAST + 1):
                self.tells(last_up_to(wanted, moment), last_visit, moment, row)

    def test_places_that_are_never_next(self):
        for row in (7, 8, 20, 21, -1):
            self.tells([], visits, row)
            self.tells(None, last_visit, 0, row)
            self.tells(None, last_visit, LAST, row)

    def test_the_place_behind_all_rows(self):
        tape = Tape((("say", num(1)), ("say", num(2))), [], 1, 9)
        self.same(visits(tape, 2), [2])
        self.same([last_visit(tape, moment, 2) for moment in range(3)], [None, None, 2])
        self.same(visits(Tape((), [], 1, 9), 0), [0])

    def test_lists_are_new_ones_each_time(self):
        self.new_each_time(visits, 0)


class SaidTest(Told):
    def test_said_at(self):
        for moment in range(LAST + 1):
            by_then = last_up_to(SAID, moment)
            self.tells(SAID.get(by_then, []), said_at, moment)

    def test_when_said(self):
        for number, moment in enumerate((4, 10, 16, 22)):
            self.tells(moment, when_said, number)
        for number in (4, 5, 10006):
            self.tells(None, when_said, number)

    def test_where_nothing_is_said(self):
        tape = Tape((("set", "a", num(1)),), [], 1, 9)
        self.same(when_said(tape, 0), None)
        self.same(said_at(tape, 1), [])

    def test_what_most_cuts_off_is_never_said(self):
        tape = Tape(PROGRAM, ASKED, 1, 9)
        self.same([when_said(tape, 0), when_said(tape, 1)], [4, None])

    def test_lists_are_new_ones_each_time(self):
        self.new_each_time(said_at, LAST)


class SpreadTest(Told):
    def test_spread(self):
        self.tells([(0, 7), (3, 6), (4, 6), (5, 5)], spread, "a")
        self.tells([(0, 2), (3, 6), (7, 12), (12, 4)], spread, "b")
        self.tells([(0, 12), (3, 6), (4, 6)], spread, 3)
        self.tells([(0, 21), (5, 3)], spread, 0)

    def test_things_that_never_change(self):
        for thing in ("c", "d", "e", "f", 1, 2):
            self.tells([(0, LAST + 1)], spread, thing)

    def test_rising_whatever_comes_first(self):
        tape = Tape(tuple([("set", "a", num(worth)) for worth in (9, 2, 10006, 10, 2)]), [], 2, 50)
        self.same(spread(tape, "a"), [(0, 1), (2, 2), (9, 1), (10, 1), (10006, 1)])

    def test_a_run_without_steps(self):
        self.same(spread(Tape((STOP,), [], 1, 9), "a"), [(0, 1)])

    def test_lists_are_new_ones_each_time(self):
        self.new_each_time(spread, "a")


if __name__ == "__main__":
    unittest.main()
