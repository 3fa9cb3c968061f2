"""Promises 3.1, 3.2 and 3.3, and 0.3 where it speaks of them."""

import copy
import unittest

from backtape.errors import NoMoment
from backtape.steps import begun, states
from backtape.tapes import Tape
from helper import STOP, kinds, name, num

# Never over by itself.
COUNTING = (("set", "a", ("add", name("a"), num(1))), ("jump", 0))
# Asks till it is brought a 0, and is then over: at moment 10 with the worths of ASKED.
ASKING = (("ask", "b"), ("unless", name("b"), 4), ("say", name("b")), ("jump", 0), STOP)
ASKED = [5, 6, 0, 7]
# Over at the seventh call.
CALLING = (("call", 0),)
# Over ahead of all steps.
OVER = ((), (STOP,), (("back",),))

ENDS = ((COUNTING, [], None), (ASKING, ASKED, 10), (ASKING, [], 2), (CALLING, [], 6)) + tuple(
    [(program, [], 0) for program in OVER])
EVERY = (1, 2, 3, 4, 7, 8, 9, 50, 1000)
MOST = (0, 1, 2, 5, 6, 7, 8, 9, 10, 11, 40)


def marked(every, farthest):
    """The marks by the words of 3.3."""
    while len(range(0, farthest + 1, every)) > 8:
        every = every * 2
    return list(range(0, farthest + 1, every))


def orders(moments):
    """The moments forth, back, from both ends in turn, and in strides."""
    forth = list(moments)
    turns = [forth[number // 2] if number % 2 == 0 else forth[-1 - number // 2] for number in range(len(forth))]
    strides = [moment for first in range(5) for moment in forth[first::5]]
    return [forth, forth[::-1], turns, strides, forth + forth]


class Told(unittest.TestCase):
    def same(self, told, wanted):
        self.assertEqual(kinds(told), kinds(wanted))

    def none_at(self, ask, moments):
        for moment in moments:
            with self.assertRaises(NoMoment, msg=moment):
                ask(moment)

    def counting(self, every, most=1000):
        return Tape(COUNTING, [], every, most)


class AtTest(Told):
    def test_the_state_at_each_moment_in_any_order(self):
        for program, asked, _ in ENDS:
            for most in MOST:
                wanted = states(program, asked, most)
                for every in EVERY:
                    for order in orders(range(len(wanted))):
                        tape = Tape(program, asked, every, most)
                        self.assertEqual([tape.at(moment) for moment in order], [wanted[moment] for moment in order])

    def test_the_state_at_one_moment_alone(self):
        wanted = states(COUNTING, [], 60)
        for every in EVERY:
            for moment in range(61):
                self.same(self.counting(every, 60).at(moment), wanted[moment])

    def test_moments_that_are_known(self):
        tape = self.counting(3)
        self.same(tape.at(0), begun())
        self.same(tape.at(31), (1, (16, 0, 0, 0, 0, 0), (0,) * 4, (), 0, ()))
        self.same(tape.at(1000), (0, (500, 0, 0, 0, 0, 0), (0,) * 4, (), 0, ()))
        self.same(Tape(ASKING, ASKED, 2, 50).at(10), (4, (0,) * 6, (0,) * 4, (), 3, (5, 6)))

    def test_a_long_run(self):
        tape = self.counting(1, 20100)
        for moment in (20100, 0, 20013, 10007, 19999, 1, 20014):
            self.same(tape.at(moment)[1][0], (moment + 1) // 2 % 10007)

    def test_no_moment(self):
        for program, asked, last in ENDS:
            for most in MOST:
                end = most if last is None else min(most, last)
                for every in (1, 3, 1000):
                    tape = Tape(program, asked, every, most)
                    self.none_at(tape.at, [-1, -2, -most - 1, end + 1, end + 2, most + 1, most + 2, 10006])
                    self.assertEqual(tape.at(end), states(program, asked, most)[end])
                    self.none_at(tape.at, [-1, end + 1, most + 1])

    def test_no_moment_on_a_new_tape(self):
        for moment in (-1, -8, 11, 12, 50, 51):
            self.none_at(Tape(ASKING, ASKED, 1, 50).at, [moment])

    def test_truths_are_no_moments(self):
        tape = self.counting(1)
        for ask in (tape.at, tape.to, tape.cost):
            self.none_at(ask, [True, False])
        self.same(tape.moment(), 0)
        self.same(tape.marks(), [0])


class EndTest(Told):
    def test_where_the_run_ends_by_itself_and_where_most_ends_it(self):
        for program, asked, last in ENDS:
            for most in MOST:
                for every in EVERY:
                    tape = Tape(program, asked, every, most)
                    wanted = most if last is None else min(most, last)
                    self.same(tape.end(), wanted)
                    self.same(tape.end(), wanted)

    def test_behind_other_questions(self):
        tape = self.counting(2, 40)
        tape.at(17)
        self.same(tape.end(), 40)
        tape.at(3)
        tape.to(5)
        self.same(tape.end(), 40)
        self.same(tape.moment(), 5)

    def test_most_of_0(self):
        for program, asked, _ in ENDS:
            tape = Tape(program, asked, 1, 0)
            self.same(tape.end(), 0)
            self.same(tape.at(0), begun())
            self.none_at(tape.at, [-1, 1, 2])
            self.same(tape.go(3), 0)
            self.same(tape.marks(), [0])

    def test_somewhat_beyond_the_bounds_nothing_is_refused(self):
        tape = Tape(COUNTING, [], 1, -1)
        self.same([tape.at(0), tape.end(), tape.go(2)], [begun(), 0, 0])
        for every in (0, -1):
            self.same(Tape(COUNTING, [], every, 30).at(30), states(COUNTING, [], 30)[30])
        tape = self.counting(4)
        tape.to(8)
        self.same(tape.go(-1), 0)
        self.same(tape.back(-1), 0)
        self.same(tape.moment(), 8)


class LookedAtTest(Told):
    def looks(self, tape, moment):
        self.same(tape.moment(), moment)
        self.same(tape.state(), states(tape.program, tape.asked, moment)[-1])

    def test_at_first(self):
        for program, asked, _ in ENDS:
            tape = Tape(program, asked, 2, 9)
            self.same(tape.moment(), 0)
            self.same(tape.state(), begun())

    def test_to(self):
        for every in (1, 3, 100):
            tape = self.counting(every, 40)
            for moment in (7, 40, 0, 39, 39, 12, 13):
                self.assertIsNone(tape.to(moment))
                self.looks(tape, moment)

    def test_to_a_moment_that_is_not_there(self):
        tape = Tape(ASKING, ASKED, 2, 50)
        self.none_at(tape.to, [-1, 11, 50, 51])
        self.looks(tape, 0)
        tape.to(9)
        self.none_at(tape.to, [-1, -9, 11, 12, 50, 51, 10006])
        self.looks(tape, 9)

    def test_go(self):
        for every in (1, 3, 100):
            tape = self.counting(every, 40)
            for many, moment in ((1, 1), (0, 1), (12, 13), (26, 39), (0, 39), (1, 40)):
                before = tape.moment()
                self.same(tape.go(many), moment - before)
                self.looks(tape, moment)

    def test_go_beyond_the_last_moment(self):
        tape = Tape(ASKING, ASKED, 3, 50)
        self.same(tape.go(4), 4)
        self.same(tape.go(7), 6)
        self.looks(tape, 10)
        self.same(tape.go(1), 0)
        self.same(tape.go(0), 0)
        self.looks(tape, 10)
        tape = self.counting(3, 20)
        self.same(tape.go(10006), 20)
        self.looks(tape, 20)

    def test_go_just_to_the_last_moment(self):
        tape = Tape(ASKING, ASKED, 3, 50)
        self.same(tape.go(10), 10)
        self.looks(tape, 10)

    def test_back(self):
        for every in (1, 3, 100):
            tape = self.counting(every, 40)
            tape.to(40)
            for many, moment in ((1, 39), (0, 39), (12, 27), (26, 1), (1, 0)):
                before = tape.moment()
                self.same(tape.back(many), before - moment)
                self.looks(tape, moment)

    def test_back_beyond_the_first_moment(self):
        tape = self.counting(3, 40)
        self.same(tape.back(5), 0)
        self.looks(tape, 0)
        tape.to(7)
        self.same(tape.back(8), 7)
        self.looks(tape, 0)
        tape.to(7)
        self.same(tape.back(10006), 7)
        self.looks(tape, 0)

    def test_forth_and_back_in_turn(self):
        tape = self.counting(5, 40)
        self.same([tape.go(9), tape.back(4), tape.go(30), tape.back(2), tape.go(30)], [9, 4, 30, 2, 7])
        self.looks(tape, 40)

    def test_other_questions_don_t_change_it(self):
        tape = self.counting(5, 40)
        tape.to(6)
        tape.at(30)
        tape.cost(31)
        tape.marks()
        tape.end()
        tape.state()
        self.none_at(tape.at, [-1, 41])
        self.none_at(tape.cost, [-1, 41])
        self.looks(tape, 6)

    def test_each_tape_looks_for_itself(self):
        one = self.counting(5, 40)
        other = self.counting(5, 40)
        one.to(9)
        self.looks(other, 0)
        self.looks(one, 9)
        self.same(other.marks(), [0])


class MarksTest(Told):
    def test_at_first(self):
        for every in EVERY:
            self.same(self.counting(every).marks(), [0])

    def test_behind_at_to_and_cost(self):
        for every in EVERY:
            for moment in list(range(40)) + [63, 64, 65, 127, 128, 500, 511, 512, 999, 1000]:
                for ask in (Tape.at, Tape.to, Tape.cost):
                    tape = self.counting(every)
                    ask(tape, moment)
                    self.same(tape.marks(), marked(every, moment))

    def test_known_marks(self):
        tape = self.counting(1)
        for moment, wanted in (
            (7, [0, 1, 2, 3, 4, 5, 6, 7]), (8, [0, 2, 4, 6, 8]), (15, [0, 2, 4, 6, 8, 10, 12, 14]),
            (16, [0, 4, 8, 12, 16]), (31, [0, 4, 8, 12, 16, 20, 24, 28]), (300, [0, 64, 128, 192, 256]),
        ):
            tape.at(moment)
            self.same(tape.marks(), wanted)
        tape = self.counting(5)
        tape.at(39)
        self.same(tape.marks(), [0, 5, 10, 15, 20, 25, 30, 35])
        tape.at(40)
        self.same(tape.marks(), [0, 10, 20, 30, 40])

    def test_the_farthest_moment_counts_alone(self):
        for every in (1, 2, 3, 50):
            tape = self.counting(every)
            farthest = 0
            for moment in (3, 1, 20, 0, 19, 21, 70, 33, 64, 400, 5):
                tape.at(moment)
                farthest = max(farthest, moment)
                self.same(tape.marks(), marked(every, farthest))

    def test_behind_end(self):
        for every in EVERY:
            for most in MOST:
                tape = self.counting(every, most)
                tape.end()
                self.same(tape.marks(), marked(every, most))
                tape = Tape(ASKING, ASKED, every, most)
                tape.end()
                self.same(tape.marks(), marked(every, min(most, 10)))

    def test_behind_go_up_to_the_last_moment(self):
        for every in EVERY:
            for many in (0, 1, 5, 40, 100):
                tape = self.counting(every, 40)
                tape.go(many)
                self.same(tape.marks(), marked(every, 40))
                tape = Tape(ASKING, ASKED, every, 50)
                tape.go(many)
                self.same(tape.marks(), marked(every, 10))

    def test_moment_state_back_and_marks_ask_no_farther(self):
        tape = self.counting(2)
        tape.to(9)
        for ask in (tape.moment, tape.state, tape.marks, lambda: tape.back(3), tape.state, lambda: tape.back(30)):
            ask()
            self.same(tape.marks(), [0, 2, 4, 6, 8])

    def test_behind_a_moment_that_is_not_there(self):
        for every in (1, 2, 4, 100):
            for ask in (Tape.at, Tape.to, Tape.cost):
                for moment in (11, 12, 49, 50):
                    tape = Tape(ASKING, ASKED, every, 50)
                    self.none_at(lambda asked: ask(tape, asked), [moment])
                    self.same(tape.marks(), marked(every, 10))

    def test_below_0_and_beyond_most_nothing_is_marked(self):
        for program, asked in ((COUNTING, []), (ASKING, ASKED)):
            for ask in (Tape.at, Tape.to, Tape.cost):
                for moment in (-1, -50, 51, 52, 10006):
                    tape = Tape(program, asked, 1, 50)
                    self.none_at(lambda asked: ask(tape, asked), [moment])
                    self.same(tape.marks(), [0])

    def test_never_more_than_8(self):
        for every in EVERY:
            tape = self.counting(every)
            for moment in range(1001):
                tape.at(moment)
                told = tape.marks()
                self.assertLessEqual(len(told), 8)
                self.assertEqual(told, marked(every, moment))

    def test_the_list_is_a_new_one_each_time(self):
        tape = self.counting(2)
        tape.at(9)
        tape.marks().clear()
        tape.marks().append(5)
        self.same(tape.marks(), [0, 2, 4, 6, 8])
        self.same(tape.at(9), states(COUNTING, [], 9)[9])


class CostTest(Told):
    def test_by_the_marks_with_itself_told(self):
        for every in EVERY:
            for moment in list(range(70)) + [127, 128, 129, 1000]:
                last = marked(every, moment)[-1]
                self.same(self.counting(every).cost(moment), moment - last)

    def test_known_costs(self):
        tape = self.counting(4)
        self.same([tape.cost(moment) for moment in (0, 1, 3, 4, 5, 31)], [0, 1, 3, 0, 1, 3])
        # From here on 8 is taken for every.
        self.same([tape.cost(moment) for moment in (32, 4, 5, 7, 8, 31)], [0, 4, 5, 7, 0, 7])

    def test_near_and_far(self):
        tape = self.counting(1)
        self.same([tape.cost(moment) for moment in range(8)], [0] * 8)
        tape = self.counting(1000)
        self.same([tape.cost(moment) for moment in (0, 1, 999, 1000, 1)], [0, 1, 999, 0, 1])

    def test_no_moment(self):
        tape = Tape(ASKING, ASKED, 2, 50)
        self.none_at(tape.cost, [-1, -2, 11, 12, 50, 51])
        self.same(tape.cost(10), 0)
        self.none_at(self.counting(3, 20).cost, [-1, 21])
        self.none_at(self.counting(3, 0).cost, [-1, 1])

    def test_what_is_looked_at_is_not_changed(self):
        tape = self.counting(3)
        tape.to(4)
        tape.cost(50)
        self.same(tape.moment(), 4)


class HandedInTest(Told):
    def test_what_is_handed_in_is_not_changed(self):
        asked = [5, 6, 0, 7]
        before = copy.deepcopy((ASKING, asked))
        tape = Tape(ASKING, asked, 2, 50)
        tape.end()
        tape.go(20)
        tape.back(5)
        tape.at(4)
        self.same((ASKING, asked), before)

    def test_a_list_that_is_changed_later_changes_no_run(self):
        asked = [5, 6, 0, 7]
        tape = Tape(ASKING, asked, 4, 50)
        tape.at(2)
        asked.clear()
        self.same([tape.at(moment) for moment in range(11)], states(ASKING, ASKED, 50))


if __name__ == "__main__":
    unittest.main()
