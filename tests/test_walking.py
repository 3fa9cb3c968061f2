"""Promises 5.1 and 5.2, and 0.3 where it speaks of them."""

import unittest

from backtape.errors import NoMoment
from backtape.tapes import Tape
from backtape.walking import back_out, back_over, calls, depth, open_calls, out, over
from helper import STOP, kinds, name, num

# A call within a call, and behind it one alone; the last moment is 8.
NESTED = (
    ("call", 3), ("call", 5), STOP,
    ("call", 5), ("back",),
    ("set", "a", ("add", name("a"), num(1))), ("back",),
)
# Comes back at once, and is over at a back without a call.
AT_ONCE = (("call", 1), ("back",))
# Never comes back: over at the seventh call.
ENDLESS = (("call", 0),)
# Ends within two calls, behind one that came back.
WITHIN = (("call", 3), ("call", 4), STOP, ("back",), ("call", 5), ("say", num(1)))
# Calls the place behind itself: what comes back goes through the same rows again.
TWICE = (("call", 1), ("say", num(1)), ("back",))


class Told(unittest.TestCase):
    def same(self, told, wanted):
        self.assertEqual(kinds(told), kinds(wanted))

    def tapes(self, program, most):
        return [Tape(program, [], every, most) for every in (1, 2, 3, 100)]

    def each(self, program, most, ask, wanted):
        """What is told at each moment, in the order of the moments and back, without another look."""
        for tape in self.tapes(program, most):
            tape.to(1)
            self.same([ask(tape, moment) for moment in range(len(wanted))], wanted)
            self.same([ask(tape, moment) for moment in reversed(range(len(wanted)))], wanted[::-1])
            self.same(tape.moment(), 1)
            self.same(tape.end(), len(wanted) - 1)

    def calls_are(self, program, most, wanted):
        for tape in self.tapes(program, most):
            tape.go(1)
            self.same(calls(tape), wanted)
            self.same(calls(tape), wanted)
            self.same(tape.moment(), min(most, 1))


class DepthTest(Told):
    def test_calls_within_calls(self):
        self.each(NESTED, 50, depth, [0, 1, 2, 2, 1, 0, 1, 1, 0])

    def test_calls_that_never_come_back(self):
        self.each(ENDLESS, 50, depth, [0, 1, 2, 3, 4, 5, 6])
        self.each(ENDLESS, 3, depth, [0, 1, 2, 3])

    def test_a_run_that_ends_within_a_call(self):
        self.each(WITHIN, 50, depth, [0, 1, 0, 1, 2, 2])


class StepsTest(Told):
    def test_over(self):
        self.each(NESTED, 50, over, [5, 4, 3, 4, 5, 8, 7, 8, 8])
        self.each(AT_ONCE, 50, over, [2, 2, 2])
        self.each(ENDLESS, 50, over, [6] * 7)
        self.each(WITHIN, 50, over, [2, 2, 5, 5, 5, 5])
        self.each(TWICE, 50, over, [3, 2, 3, 4, 4])

    def test_out(self):
        self.each(NESTED, 50, out, [8, 5, 4, 4, 5, 8, 8, 8, 8])
        self.each(AT_ONCE, 50, out, [2, 2, 2])
        self.each(ENDLESS, 50, out, [6] * 7)
        self.each(WITHIN, 50, out, [5, 2, 5, 5, 5, 5])
        self.each(TWICE, 50, out, [4, 3, 3, 4, 4])

    def test_back_over(self):
        self.each(NESTED, 50, back_over, [0, 0, 1, 2, 1, 0, 5, 6, 5])
        self.each(AT_ONCE, 50, back_over, [0, 0, 0])
        self.each(ENDLESS, 50, back_over, [0, 0, 1, 2, 3, 4, 5])
        self.each(WITHIN, 50, back_over, [0, 0, 0, 2, 3, 4])
        self.each(TWICE, 50, back_over, [0, 0, 1, 0, 3])

    def test_back_out(self):
        self.each(NESTED, 50, back_out, [0, 0, 1, 1, 0, 0, 5, 5, 0])
        self.each(AT_ONCE, 50, back_out, [0, 0, 0])
        self.each(ENDLESS, 50, back_out, [0, 0, 1, 2, 3, 4, 5])
        self.each(WITHIN, 50, back_out, [0, 0, 0, 2, 3, 3])
        self.each(TWICE, 50, back_out, [0, 0, 0, 0, 0])

    def test_a_run_that_most_ends_within_a_call(self):
        self.each(NESTED, 3, over, [3, 3, 3, 3])
        self.each(NESTED, 3, out, [3, 3, 3, 3])
        self.each(NESTED, 3, back_over, [0, 0, 1, 2])
        self.each(NESTED, 3, back_out, [0, 0, 1, 1])
        self.each(NESTED, 4, over, [4, 4, 3, 4, 4])

    def test_a_run_without_calls(self):
        program = (("say", num(1)),) * 5
        self.each(program, 50, over, [1, 2, 3, 4, 5, 5])
        self.each(program, 50, out, [5] * 6)
        self.each(program, 50, back_over, [0, 0, 1, 2, 3, 4])
        self.each(program, 50, back_out, [0] * 6)

    def test_a_run_without_steps(self):
        for ask in (depth, over, out, back_over, back_out):
            self.same(ask(Tape((), [], 1, 9), 0), 0)
            self.same(ask(Tape(NESTED, [], 1, 0), 0), 0)

    def test_no_moment(self):
        for program, most, last in ((NESTED, 50, 8), (NESTED, 3, 3), (ENDLESS, 50, 6), ((), 50, 0)):
            for ask in (depth, over, out, back_over, back_out, open_calls):
                for moment in (-1, -2, last + 1, last + 2, most + 1):
                    tape = Tape(program, [], 2, most)
                    with self.assertRaises(NoMoment, msg=(ask, moment)):
                        ask(tape, moment)
                    self.same(tape.moment(), 0)


class CallsTest(Told):
    def test_calls_within_calls(self):
        self.calls_are(NESTED, 50, [(0, 5), (1, 4), (5, 8)])
        self.calls_are(TWICE, 50, [(0, 3)])

    def test_a_call_that_comes_back_at_once(self):
        self.calls_are(AT_ONCE, 50, [(0, 2)])

    def test_calls_that_never_come_back(self):
        self.calls_are(ENDLESS, 50, [(moment, None) for moment in range(6)])

    def test_a_run_that_ends_within_a_call(self):
        self.calls_are(WITHIN, 50, [(0, 2), (2, None), (3, None)])

    def test_a_run_that_most_ends(self):
        self.calls_are(NESTED, 8, [(0, 5), (1, 4), (5, 8)])
        self.calls_are(NESTED, 7, [(0, 5), (1, 4), (5, None)])
        self.calls_are(NESTED, 6, [(0, 5), (1, 4), (5, None)])
        # Behind the last moment there is no step, whatever row is next there.
        self.calls_are(NESTED, 5, [(0, 5), (1, 4)])
        self.calls_are(NESTED, 4, [(0, None), (1, 4)])
        self.calls_are(NESTED, 1, [(0, None)])
        self.calls_are(NESTED, 0, [])

    def test_without_calls(self):
        self.calls_are((("say", num(1)), STOP), 50, [])

    def test_open_calls(self):
        self.each(NESTED, 50, open_calls, [[], [0], [0, 1], [0, 1], [0], [], [5], [5], []])
        self.each(AT_ONCE, 50, open_calls, [[], [0], []])
        self.each(ENDLESS, 50, open_calls, [list(range(many)) for many in range(7)])
        self.each(WITHIN, 50, open_calls, [[], [0], [], [2], [2, 3], [2, 3]])
        self.each(NESTED, 3, open_calls, [[], [0], [0, 1], [0, 1]])

    def test_lists_are_new_ones_each_time(self):
        tape = Tape(NESTED, [], 2, 50)
        calls(tape).clear()
        self.same(calls(tape), [(0, 5), (1, 4), (5, 8)])
        open_calls(tape, 2).clear()
        self.same(open_calls(tape, 2), [0, 1])


if __name__ == "__main__":
    unittest.main()
