"""Promise 0.2, (a) to (e), over drawn programs, each answer held against all states of its run."""

import copy
import functools
import unittest

from backtape.asking import (
    changes, last_change, last_so, last_visit, moments_so, next_change, next_so, said_at, spread, sum_at, visits,
    when_said, worth_at,
)
from backtape.differing import change_at, differing, first_other, led_back, led_on
from backtape.errors import NoMoment
from backtape.programs import is_program
from backtape.reasons import needless, reasons, remade, thing_written, writer_of
from backtape.steps import reckoned, states
from backtape.tapes import Tape
from backtape.walking import back_out, back_over, calls, depth, open_calls, out, over
from helper import LETTERS, THINGS, Draw, drawn_runs, drawn_sum

MANY = 400


def worth_of(state, thing):
    return state[1][LETTERS.index(thing)] if thing in tuple(LETTERS) else state[2][thing]


def reads_of(term, state):
    """The things that a sum reads, by the words of the document."""
    if term[0] == "num":
        return set()
    if term[0] == "name":
        return {term[1]}
    if term[0] == "cell":
        return {reckoned(term[1], state) % 4} | reads_of(term[1], state)
    return reads_of(term[1], state) | reads_of(term[2], state)


class Run:
    """A drawn run: all its states, and a tape of it."""

    def __init__(self, seed, program, asked, most):
        self.seed = seed
        self.program = program
        self.asked = asked
        self.most = most
        self.states = states(program, asked, most)
        self.last = len(self.states) - 1
        self.moments = range(len(self.states))
        self.depths = [len(state[3]) for state in self.states]
        self.lay_anew()

    def lay_anew(self):
        """A new tape, half of which is gone, and the drawing from its start, whatever test came ahead."""
        self.draw = Draw(10000 + self.seed)
        self.every = self.draw.of((1, 1, 2, 3, 5, 9, 20, 100))
        self.tape = Tape(self.program, self.asked, self.every, self.most)
        self.tape.to(self.last // 2)

    def shuffled(self):
        """The moments in a drawn order."""
        moments = list(self.moments)
        for number in reversed(range(1, len(moments))):
            other = self.draw.below(number + 1)
            moments[number], moments[other] = moments[other], moments[number]
        return moments

    def written(self, moment):
        """What the step to this moment writes, by the words of the document."""
        ahead = self.states[moment - 1]
        row = self.program[ahead[0]]
        if row[0] == "put":
            return reckoned(row[1], ahead) % 4
        return row[1] if row[0] in ("set", "ask") else None

    def writer(self, moment, thing):
        return max([other for other in range(1, moment + 1) if self.written(other) == thing], default=None)

    def reasons(self, moment, term):
        """The reasons by the words of the document, step by step."""
        found = set()
        waiting = [(thing, moment) for thing in reads_of(term, self.states[moment])]
        while waiting:
            thing, bound = waiting.pop()
            writer = self.writer(bound, thing)
            if writer is not None and writer not in found:
                found.add(writer)
                ahead = self.states[writer - 1]
                row = self.program[ahead[0]]
                terms = {"set": row[2:], "put": row[1:], "ask": ()}[row[0]]
                waiting += [(read, writer - 1) for other in terms for read in reads_of(other, ahead)]
        return sorted(found)

    def some_moments(self):
        return [0, self.last] + [self.draw.below(self.last + 1) for _ in range(6)]


RUNS = [Run(seed, *drawn) for seed, drawn in enumerate(drawn_runs(MANY))]


def over_runs(check):
    """A test that does the check for each run, and holds that it changes neither the look nor what was handed in."""
    @functools.wraps(check)
    def test(self):
        for run in RUNS:
            with self.subTest(program=run.program, asked=run.asked, every=run.every, most=run.most):
                before = copy.deepcopy((run.program, run.asked))
                run.lay_anew()
                check(self, run)
                self.assertEqual(run.tape.moment(), run.last // 2)
                self.assertEqual((run.program, run.asked), before)
    return test


class DrawnTest(unittest.TestCase):
    def test_what_is_drawn_is_worth_asking(self):
        """Enough long runs, runs of both ends, calls that come back, also within calls, and such that do not."""
        sorts = ("program", "long", "over", "cut", "back", "within", "never", "said", "again", "reasons")
        found = {sort: 0 for sort in sorts}
        for run in RUNS:
            told = calls(run.tape)
            ended = [call for call in told if call[1] is not None]
            found["program"] += is_program(run.program)
            found["long"] += run.last >= 20
            found["over"] += run.last < run.most
            found["cut"] += run.last == run.most
            found["back"] += len(ended) > 0
            found["within"] += any([run.depths[moment] > 0 for moment, _ in ended])
            found["never"] += len(told) > len(ended)
            found["said"] += len(run.states[-1][5]) > 0
            found["reasons"] += max([len(run.reasons(run.last, ("name", letter))) for letter in LETTERS]) >= 5
            found["again"] += len({state[1:3] for state in run.states}) <= run.last // 2
        self.assertEqual(found.pop("program"), MANY)
        for sort, many in found.items():
            self.assertGreaterEqual(many, MANY // 20, sort)

    @over_runs
    def test_a_tapes_tell_the_states_in_any_order_wherever_marks_lie(self, run):
        for every in (1, 2, 7, run.every):
            tape = Tape(run.program, run.asked, every, run.most)
            for moment in run.shuffled():
                self.assertEqual(tape.at(moment), run.states[moment])
            self.assertEqual(tape.end(), run.last)
            for moment in (-1, run.last + 1):
                self.assertRaises(NoMoment, tape.at, moment)

    @over_runs
    def test_a_what_is_looked_at_and_the_marks_by_their_words(self, run):
        tape = Tape(run.program, run.asked, run.every, run.most)
        now = 0
        farthest = 0
        for _ in range(12):
            many = run.draw.below(run.most + 3)
            way = run.draw.below(5)
            if way == 0:
                wanted = min(many, run.last - now)
                self.assertEqual(tape.go(many), wanted)
                now += wanted
                farthest = run.last
            elif way == 1:
                wanted = min(many, now)
                self.assertEqual(tape.back(many), wanted)
                now -= wanted
            elif many > run.last:
                self.assertRaises(NoMoment, (tape.to, tape.at, tape.cost)[way - 2], many)
                farthest = run.last if many <= run.most else farthest
            else:
                farthest = max(farthest, many)
                gap = self.gap(run.every, farthest)
                wanted = (None, run.states[many], many % gap)[way - 2]
                self.assertEqual((tape.to, tape.at, tape.cost)[way - 2](many), wanted)
                now = many if way == 2 else now
            self.assertEqual(tape.moment(), now)
            self.assertEqual(tape.state(), run.states[now])
            self.assertEqual(tape.marks(), list(range(0, farthest + 1, self.gap(run.every, farthest))))

    def gap(self, every, farthest):
        while farthest // every + 1 > 8:
            every *= 2
        return every

    @over_runs
    def test_b_between_two_changes_a_thing_has_one_worth(self, run):
        for thing in THINGS:
            worths = [worth_of(state, thing) for state in run.states]
            told = changes(run.tape, thing)
            self.assertEqual(told, sorted(set(told)))
            bounds = [0] + told + [run.last + 1]
            for first, behind in zip(bounds, bounds[1:]):
                self.assertEqual(len(set(worths[first:behind])), 1)
            for moment in told:
                self.assertNotEqual(worths[moment], worths[moment - 1])
            self.assertEqual(spread(run.tape, thing), sorted({(worth, worths.count(worth)) for worth in worths}))

    @over_runs
    def test_b_of_the_last_change_and_the_next_nothing_is_left_out(self, run):
        for thing in [run.draw.of(THINGS) for _ in range(3)] + ["a"]:
            told = changes(run.tape, thing)
            for moment in run.some_moments():
                self.assertEqual(worth_at(run.tape, moment, thing), worth_of(run.states[moment], thing))
                last = max([change for change in told if change <= moment], default=None)
                self.assertEqual(last_change(run.tape, moment, thing), last)
                following = min([change for change in told if change > moment], default=None)
                self.assertEqual(next_change(run.tape, moment, thing), following)

    @over_runs
    def test_sums_places_and_what_was_said(self, run):
        term = drawn_sum(run.draw)
        row = run.draw.below(len(run.program) + 1)
        so = [moment for moment in run.moments if reckoned(term, run.states[moment]) != 0]
        seen = [moment for moment in run.moments if run.states[moment][0] == row]
        self.assertEqual(moments_so(run.tape, term), so)
        self.assertEqual(visits(run.tape, row), seen)
        for moment in run.some_moments():
            self.assertEqual(sum_at(run.tape, moment, term), reckoned(term, run.states[moment]))
            self.assertEqual(last_so(run.tape, moment, term), max([m for m in so if m <= moment], default=None))
            self.assertEqual(next_so(run.tape, moment, term), min([m for m in so if m >= moment], default=None))
            last = max([m for m in seen if m <= moment], default=None)
            self.assertEqual(last_visit(run.tape, moment, row), last)
            self.assertEqual(said_at(run.tape, moment), list(run.states[moment][5]))
        for number in range(len(run.states[-1][5]) + 2):
            wanted = min([m for m in run.moments if len(run.states[m][5]) > number], default=None)
            self.assertEqual(when_said(run.tape, number), wanted)

    @over_runs
    def test_c_over_a_call_and_back_over_it(self, run):
        for moment, end in calls(run.tape):
            self.assertEqual(run.program[run.states[moment][0]][0], "call")
            if end is None:
                self.assertGreater(min(run.depths[moment + 1:]), run.depths[moment])
                self.assertEqual(over(run.tape, moment), run.last)
            else:
                self.assertEqual(depth(run.tape, end), depth(run.tape, moment))
                self.assertGreater(min(run.depths[moment + 1:end]), run.depths[moment])
                self.assertEqual(over(run.tape, moment), end)
                self.assertEqual(back_over(run.tape, end), moment)

    @over_runs
    def test_c_no_call_is_left_out(self, run):
        rows = [run.program[state[0]][0] for state in run.states[:-1]]
        told = calls(run.tape)
        self.assertEqual([call[0] for call in told], [moment for moment in run.moments[:-1] if rows[moment] == "call"])
        for moment in run.some_moments():
            self.assertEqual(
                open_calls(run.tape, moment),
                [call for call, end in told if call < moment and (end is None or end > moment)],
            )

    @over_runs
    def test_c_steps_over_and_out_at_drawn_moments(self, run):
        for moment in run.some_moments():
            here = run.depths[moment]
            self.assertEqual(depth(run.tape, moment), here)
            ahead = list(run.moments)[:moment]
            behind = list(run.moments)[moment + 1:]
            for most, forth, back in ((here, over, back_over), (here - 1, out, back_out)):
                wanted = min([m for m in behind if run.depths[m] <= most], default=run.last)
                self.assertEqual(forth(run.tape, moment), wanted)
                wanted = max([m for m in ahead if run.depths[m] <= most], default=0)
                self.assertEqual(back(run.tape, moment), wanted)

    @over_runs
    def test_d_what_a_step_did_leads_back_and_on(self, run):
        for moment in run.moments[1:]:
            change = change_at(run.tape, moment)
            ahead = run.states[moment - 1]
            behind = run.states[moment]
            self.assertEqual(led_back(behind, change), ahead)
            self.assertEqual(led_on(ahead, change), behind)
            self.assertEqual(led_on(led_back(behind, change), change), behind)
            self.assertEqual(change[1], tuple(differing(run.tape, moment - 1, moment)))
            both = [(ahead[part], behind[part]) for part in (0, 3, 4, 5)]
            self.assertEqual([change[0]] + list(change[2:]), both)

    @over_runs
    def test_e_what_steps_write(self, run):
        wrote = [run.written(moment) for moment in run.moments[1:]]
        self.assertEqual([thing_written(run.tape, moment) for moment in run.moments[1:]], wrote)
        for moment in run.some_moments()[:4]:
            for thing in THINGS:
                self.assertEqual(writer_of(run.tape, moment, thing), run.writer(moment, thing))

    @over_runs
    def test_e_the_steps_of_which_a_worth_comes_make_it_anew(self, run):
        for moment in run.some_moments():
            term = drawn_sum(run.draw, 3)
            told = reasons(run.tape, moment, term)
            made = (0,) + remade(run.tape, told) + ((), 0, ())
            self.assertEqual(reckoned(term, made), reckoned(term, run.states[moment]))
            self.assertEqual(told, run.reasons(moment, term))
            wrote = [number for number in run.moments[1:moment + 1] if run.written(number) is not None]
            self.assertEqual(needless(run.tape, moment, term), [number for number in wrote if number not in told])

    @over_runs
    def test_e_all_steps_remake_the_states(self, run):
        for moment in run.some_moments():
            self.assertEqual(remade(run.tape, list(range(1, moment + 1))), run.states[moment][1:3])

    @over_runs
    def test_what_differs_between_drawn_moments(self, run):
        for one in run.some_moments():
            other = run.draw.below(run.last + 1)
            both = [(thing, worth_of(run.states[one], thing), worth_of(run.states[other], thing)) for thing in THINGS]
            wanted = [row for row in both if row[1] != row[2]]
            self.assertEqual(differing(run.tape, one, other), wanted)
            same = [m for m in run.moments if run.states[m][1:3] == run.states[one][1:3]]
            self.assertEqual(first_other(run.tape, one), same[0])


if __name__ == "__main__":
    unittest.main()
