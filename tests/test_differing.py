"""Promises 6.1 and 6.2, and 0.3 where it speaks of them."""

import copy
import unittest

from backtape.differing import change_at, differing, first_other, led_back, led_on
from backtape.errors import NoMoment
from backtape.steps import begun, states
from backtape.tapes import Tape
from helper import STOP, kinds, name, num

# Each sort of row that makes a step; the last moment is 11.
PROGRAM = (
    ("ask", "f"), ("set", "a", num(7)), ("put", num(6), name("f")), ("say", name("a")), ("unless", num(0), 6), STOP,
    ("call", 8), ("jump", 10),
    ("unless", num(1), 0), ("back",),
    ("set", "a", num(7)), ("ask", "b"), STOP,
)
ASKED = [9]
LAST = 11
NOTHING = ((), ())
CHANGES = [
    None,
    ((0, 1), (("f", 0, 9),), NOTHING, (0, 1), NOTHING),
    ((1, 2), (("a", 0, 7),), NOTHING, (1, 1), NOTHING),
    ((2, 3), ((2, 0, 9),), NOTHING, (1, 1), NOTHING),
    ((3, 4), (), NOTHING, (1, 1), ((), (7,))),
    ((4, 6), (), NOTHING, (1, 1), ((7,), (7,))),
    ((6, 8), (), ((), (7,)), (1, 1), ((7,), (7,))),
    ((8, 9), (), ((7,), (7,)), (1, 1), ((7,), (7,))),
    ((9, 7), (), ((7,), ()), (1, 1), ((7,), (7,))),
    ((7, 10), (), NOTHING, (1, 1), ((7,), (7,))),
    # Written, but with the worth that was there.
    ((10, 11), (), NOTHING, (1, 1), ((7,), (7,))),
    # Behind the last worth an ask brings 0, which b had; that it was asked is left to tell.
    ((11, 12), (), NOTHING, (1, 2), ((7,), (7,))),
]
# Gives names and cells in an order that is not theirs; the last moment is 10.
ALL_THINGS = tuple(
    [("put", num(number), num(10 + number)) for number in (3, 1, 2, 0)]
    + [("set", letter, num(20)) for letter in "fbdace"]
)
# The name a has 0, 1, 0, 1 and so on, but the cell 2 has 5 from moment 4 on.
AGAIN = (
    ("set", "a", ("sub", num(1), name("a"))), ("set", "a", ("sub", num(1), name("a"))),
    ("set", "a", ("sub", num(1), name("a"))), ("put", num(2), num(5)), ("jump", 0),
)


class Told(unittest.TestCase):
    def same(self, told, wanted):
        self.assertEqual(kinds(told), kinds(wanted))

    def tapes(self, program=PROGRAM, asked=ASKED, most=50):
        return [Tape(program, asked, every, most) for every in (1, 2, 3, 100)]

    def refuses(self, ask, *moments):
        for tape in self.tapes():
            tape.to(4)
            with self.assertRaises(NoMoment, msg=moments):
                ask(tape, *moments)
            self.same(tape.moment(), 4)


class DifferingTest(Told):
    def differ(self, program, one, other, wanted):
        for tape in self.tapes(program):
            tape.to(2)
            self.same(differing(tape, one, other), wanted)
            self.same(differing(tape, other, one), [(thing, behind, ahead) for thing, ahead, behind in wanted])
            self.same(tape.moment(), 2)

    def test_either_way_round(self):
        self.differ(PROGRAM, 0, 1, [("f", 0, 9)])
        self.differ(PROGRAM, 1, 3, [("a", 0, 7), (2, 0, 9)])
        self.differ(PROGRAM, 0, LAST, [("a", 0, 7), ("f", 0, 9), (2, 0, 9)])
        self.differ(PROGRAM, 3, LAST, [])

    def test_names_first_then_cells_each_rising(self):
        wanted = [(letter, 0, 20) for letter in "abcdef"] + [(number, 0, 10 + number) for number in range(4)]
        self.differ(ALL_THINGS, 0, 10, wanted)
        self.differ(ALL_THINGS, 0, 3, [(1, 0, 11), (2, 0, 12), (3, 0, 13)])
        self.differ(ALL_THINGS, 4, 7, [("b", 0, 20), ("d", 0, 20), ("f", 0, 20)])

    def test_worths_that_both_are_not_0(self):
        program = tuple([("set", "c", num(worth)) for worth in (3, 10006, 3)])
        self.differ(program, 1, 2, [("c", 3, 10006)])
        self.differ(program, 1, 3, [])

    def test_of_one_moment_with_itself(self):
        for moment in range(LAST + 1):
            self.differ(PROGRAM, moment, moment, [])

    def test_no_moment(self):
        for moment in (-1, -2, LAST + 1, 50, 51):
            self.refuses(differing, moment, 0)
            self.refuses(differing, 0, moment)
            self.refuses(differing, moment, moment)

    def test_the_list_is_a_new_one_each_time(self):
        tape = self.tapes()[0]
        differing(tape, 0, 1).clear()
        self.same(differing(tape, 0, 1), [("f", 0, 9)])


class FirstOtherTest(Told):
    def firsts(self, program, asked, most, wanted):
        for tape in self.tapes(program, asked, most):
            tape.to(2)
            self.same([first_other(tape, moment) for moment in range(len(wanted))], wanted)
            self.same([first_other(tape, moment) for moment in reversed(range(len(wanted)))], wanted[::-1])
            self.same(tape.moment(), 2)

    def test_where_names_and_cells_come_again(self):
        self.firsts(AGAIN, [], 13, [0, 1, 0, 1, 4, 4, 6, 4, 6, 6, 6, 4, 6, 4])

    def test_where_they_do_not(self):
        self.firsts(ALL_THINGS, [], 50, list(range(11)))

    def test_what_else_differs_does_not_count(self):
        self.firsts(PROGRAM, ASKED, 50, [0, 1, 2] + [3] * 9)

    def test_cells_alone(self):
        program = tuple([("put", num(1), num(worth)) for worth in (3, 0, 3, 5)])
        self.firsts(program, [], 50, [0, 1, 0, 1, 4])

    def test_no_moment(self):
        for moment in (-1, -2, LAST + 1, 50, 51):
            self.refuses(first_other, moment)


class ChangeTest(Told):
    def test_each_sort_of_row(self):
        for tape in self.tapes():
            tape.to(2)
            for moment in range(1, LAST + 1):
                self.same(change_at(tape, moment), CHANGES[moment])
            self.same(tape.end(), LAST)
            self.same(tape.moment(), 2)

    def test_no_moment(self):
        for moment in (-1, -2, LAST + 1, 50, 51):
            self.refuses(change_at, moment)

    def test_no_step_leads_to_the_first_moment(self):
        self.refuses(change_at, 0)

    def test_a_change_of_all_parts(self):
        ahead = (3, (1, 2, 3, 4, 5, 6), (7, 8, 9, 10), (2, 5), 4, (1, 2))
        behind = (9, (1, 20, 3, 4, 50, 6), (70, 8, 9, 100), (2,), 6, (1, 2, 3))
        change = (
            (3, 9), (("b", 2, 20), ("e", 5, 50), (0, 7, 70), (3, 10, 100)), ((2, 5), (2,)), (4, 6), ((1, 2), (1, 2, 3)),
        )
        before = copy.deepcopy((ahead, behind, change))
        self.same(led_back(behind, change), ahead)
        self.same(led_on(ahead, change), behind)
        self.same((ahead, behind, change), before)

    def test_a_change_of_each_thing(self):
        ahead = begun()
        for place, thing in enumerate(("a", "b", "c", "d", "e", "f")):
            behind = ahead[:1] + (tuple([9 if one == place else 0 for one in range(6)]),) + ahead[2:]
            self.leads(ahead, behind, ((0, 0), ((thing, 0, 9),), NOTHING, (0, 0), NOTHING))
        for number in range(4):
            behind = ahead[:2] + (tuple([9 if one == number else 0 for one in range(4)]),) + ahead[3:]
            self.leads(ahead, behind, ((0, 0), ((number, 0, 9),), NOTHING, (0, 0), NOTHING))

    def leads(self, ahead, behind, change):
        self.same(led_on(ahead, change), behind)
        self.same(led_back(behind, change), ahead)

    def test_from_state_to_state_over_a_whole_run(self):
        for program, asked in ((PROGRAM, ASKED), (ALL_THINGS, []), (AGAIN, [])):
            wanted = states(program, asked, 30)
            for tape in self.tapes(program, asked, 30):
                steps = [change_at(tape, moment) for moment in range(1, len(wanted))]
                forth = [begun()]
                for change in steps:
                    forth.append(led_on(forth[-1], change))
                self.same(forth, wanted)
                back = [wanted[-1]]
                for change in reversed(steps):
                    back.append(led_back(back[-1], change))
                self.same(back[::-1], wanted)


if __name__ == "__main__":
    unittest.main()
