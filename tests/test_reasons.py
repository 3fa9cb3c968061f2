"""Promises 7.1, 7.2 and 7.3, and 0.3 where it speaks of them."""

import unittest

from backtape.errors import NoMoment, NoThing
from backtape.reasons import needless, reasons, remade, thing_written, writer_of
from backtape.steps import reckoned
from backtape.tapes import Tape
from helper import NO_THINGS, STOP, THINGS, cell, kinds, name, num

# Each sort of row once, none of them skipped; the last moment is 10.
ALL_SORTS = (
    ("set", "b", num(7)), ("put", name("b"), num(9)), ("ask", "a"), ("say", name("a")), ("jump", 5),
    ("unless", num(0), 6), ("unless", num(1), 0), ("call", 9), ("stop",),
    ("set", "b", num(7)), ("back",),
)
# A loop of four steps: a counts up to 3, b takes what a was.
LOOP = (
    ("set", "b", name("a")), ("set", "a", ("add", name("a"), num(1))),
    ("unless", ("less", name("a"), num(3)), 4), ("jump", 0), ("say", name("b")),
)
# What is asked lands in a, then in the cell of that number, then that cell's worth in c.
ASKING = (
    ("ask", "a"), ("ask", "b"), ("put", name("a"), name("b")), ("set", "f", num(1)),
    ("set", "c", cell(name("a"))), ("ask", "a"), ("set", "b", num(0)),
)
# The number of a put is a sum, too: the cell of cell 1.
BY_CELL = (
    ("put", num(1), num(6)), ("put", num(3), num(8)), ("set", "d", num(2)),
    ("put", cell(num(1)), ("mul", name("d"), cell(num(3)))), ("put", num(1), num(0)),
)


class Told(unittest.TestCase):
    def same(self, told, wanted):
        self.assertEqual(kinds(told), kinds(wanted))

    def tapes(self, program, asked, most):
        return [Tape(program, asked, every, most) for every in (1, 3, 100)]

    def each(self, program, asked, most, ask, wanted):
        """What is told at each moment from the first of wanted to the last one, without another look."""
        first = min(wanted)
        for tape in self.tapes(program, asked, most):
            tape.to(1)
            self.same([ask(tape, moment) for moment in sorted(wanted)], [wanted[m] for m in sorted(wanted)])
            self.same(ask(tape, first), wanted[first])
            self.same(tape.moment(), 1)
            self.same(tape.end(), max(wanted))

    def from_first(self, wanted, first=0):
        return dict(enumerate(wanted, first))


class WrittenTest(Told):
    def test_each_sort_of_row(self):
        wanted = ["b", 3, "a", None, None, None, None, None, "b", None]
        self.each(ALL_SORTS, [5], 50, thing_written, self.from_first(wanted, 1))

    def test_also_where_the_worth_stays(self):
        program = (("set", "a", num(0)), ("put", num(2), num(0)), ("ask", "f"), ("set", "b", name("b")))
        self.each(program, [], 50, thing_written, self.from_first(["a", 2, "f", "b"], 1))

    def test_a_cell_is_told_by_the_worth_ahead_of_the_step(self):
        program = (("put", cell(num(0)), num(2)), ("put", cell(num(0)), num(1)), ("put", num(10006), cell(num(2))))
        self.each(program, [], 50, thing_written, self.from_first([0, 2, 2], 1))
        self.each(BY_CELL, [], 50, thing_written, self.from_first([1, 3, "d", 2, 1], 1))

    def test_the_rest_by_four(self):
        program = tuple([("put", num(number), num(1)) for number in (4, 5, 6, 7, 8, 10006)])
        self.each(program, [], 50, thing_written, self.from_first([0, 1, 2, 3, 0, 2], 1))

    def test_rows_that_come_again(self):
        wanted = ["b", "a", None, None] * 2 + ["b", "a", None, None]
        self.each(LOOP, [], 50, thing_written, self.from_first(wanted, 1))

    def test_no_moment(self):
        for program, most, last in ((ALL_SORTS, 50, 10), (LOOP, 5, 5), ((), 50, 0), (LOOP, 0, 0)):
            # No step leads to the first moment.
            for moment in (-2, -1, 0, last + 1, last + 2, most + 1):
                tape = Tape(program, [], 2, most)
                with self.assertRaises(NoMoment, msg=moment):
                    thing_written(tape, moment)
                self.same(tape.moment(), 0)


class WriterTest(Told):
    def writers(self, program, asked, thing, wanted):
        ask = lambda tape, moment: writer_of(tape, moment, thing)
        self.each(program, asked, 50, ask, self.from_first(wanted))

    def test_things_that_are_written_often(self):
        self.writers(LOOP, [], "b", [None, 1, 1, 1, 1, 5, 5, 5, 5, 9, 9, 9, 9])
        self.writers(LOOP, [], "a", [None, None, 2, 2, 2, 2, 6, 6, 6, 6, 10, 10, 10])

    def test_things_that_are_written_once_or_never(self):
        self.writers(BY_CELL, [], "d", [None, None, None, 3, 3, 3])
        self.writers(BY_CELL, [], 3, [None, None, 2, 2, 2, 2])
        self.writers(BY_CELL, [], 2, [None, None, None, None, 4, 4])
        self.writers(BY_CELL, [], 1, [None, 1, 1, 1, 1, 5])
        self.writers(BY_CELL, [], 0, [None] * 6)
        self.writers(BY_CELL, [], "a", [None] * 6)

    def test_also_where_the_worth_stays(self):
        self.writers(ALL_SORTS, [0], "b", [None] + [1] * 8 + [9, 9])
        self.writers(ALL_SORTS, [0], "a", [None] * 3 + [3] * 8)

    def test_names_and_cells_are_not_mixed_up(self):
        program = (("put", num(0), num(1)), ("set", "a", num(1)))
        self.writers(program, [], "a", [None, None, 2])
        self.writers(program, [], 0, [None, 1, 1])

    def test_a_run_without_steps(self):
        for tape in (Tape((), [], 1, 9), Tape(LOOP, [], 1, 0)):
            for thing in THINGS:
                self.same(writer_of(tape, 0, thing), None)

    def test_no_moment(self):
        for thing in ("a", "e", 0, 3):
            for moment in (-1, 13, 14, 51):
                tape = Tape(LOOP, [], 2, 50)
                with self.assertRaises(NoMoment, msg=(thing, moment)):
                    writer_of(tape, moment, thing)
                self.same(tape.moment(), 0)

    def test_no_thing(self):
        for thing in NO_THINGS:
            for moment in (0, 1, 12):
                with self.assertRaises(NoThing, msg=(thing, moment)):
                    writer_of(Tape(LOOP, [], 2, 50), moment, thing)


class ReasonsTest(Told):
    def reasons_are(self, program, asked, term, wanted, first=0):
        """Those at each moment from the first one told on to the last of the run."""
        ask = lambda tape, moment: reasons(tape, moment, term)
        self.each(program, asked, 50, ask, self.from_first(wanted, first))

    def test_a_number_comes_of_nothing(self):
        self.reasons_are(LOOP, [], num(5), [[]] * 13)

    def test_a_name(self):
        self.reasons_are(LOOP, [], name("a"), [[], [], [2], [2], [2], [2], [2, 6], [2, 6], [2, 6], [2, 6]]
                         + [[2, 6, 10]] * 3)

    def test_reads_that_are_written_further_ahead(self):
        # b takes what a was, which came of the steps to a ahead of it, but not of the one behind it.
        self.reasons_are(LOOP, [], name("b"), [[], [1], [1], [1], [1], [2, 5], [2, 5], [2, 5], [2, 5]]
                         + [[2, 6, 9]] * 4)

    def test_a_thing_that_no_step_wrote(self):
        self.reasons_are(LOOP, [], name("f"), [[]] * 13)
        self.reasons_are(LOOP, [], cell(num(2)), [[]] * 13)
        program = (("set", "a", name("b")), ("set", "c", ("add", name("a"), cell(name("d")))))
        self.reasons_are(program, [], name("c"), [[], [], [1, 2]])

    def test_an_ask_reads_nothing(self):
        program = (("set", "a", num(3)), ("ask", "a"), ("set", "b", name("a")), ("ask", "a"))
        self.reasons_are(program, [8], name("a"), [[], [1], [2], [2], [4]])
        self.reasons_are(program, [8], name("b"), [[], [], [], [2, 3], [2, 3]])

    def test_a_cell_by_a_number_that_is_a_sum(self):
        # What the number comes of counts as well as what is in the cell.
        wanted = [[], [1], [1], [1, 2, 3], [1, 2, 3], [1, 2, 3], [6], [6]]
        self.reasons_are(ASKING, [6, 70], cell(name("a")), wanted)
        wanted = [[], [], [], [1, 2, 3], [1, 2, 3], [1, 2, 3], [1, 2, 3], [1, 2, 3]]
        self.reasons_are(ASKING, [6, 70], cell(num(2)), wanted)
        self.reasons_are(ASKING, [6, 70], name("c"), [[]] * 5 + [[1, 2, 3, 5]] * 3)

    def test_the_same_sum_by_another_number(self):
        # Cell 1 is never written, so that the worth comes of a alone.
        program = (("set", "a", num(2)), ("put", num(2), num(5)), ("set", "a", num(1)))
        self.reasons_are(program, [], cell(name("a")), [[], [1], [1, 2], [3]])

    def test_a_cell_by_a_cell(self):
        term = cell(cell(num(1)))
        self.reasons_are(BY_CELL, [], term, [[], [1], [1], [1], [1, 2, 3, 4], [5]])
        # Cell 2 is that of cell 1's 6: the put read d, cell 3, and cell 1 for its number.
        self.reasons_are(BY_CELL, [], cell(num(2)), [[], [], [], [], [1, 2, 3, 4], [1, 2, 3, 4]])

    def test_a_cell_that_is_read_by_itself(self):
        program = (("put", num(0), num(4)), ("put", cell(num(0)), ("add", cell(num(0)), num(1))), ("set", "a", num(1)))
        self.reasons_are(program, [], cell(cell(num(0))), [[], [1], [1, 2], [1, 2]])
        self.reasons_are(program, [], cell(num(0)), [[], [1], [1, 2], [1, 2]])

    def test_sums_of_two(self):
        program = (("set", "a", num(3)), ("set", "b", num(0)), ("set", "c", num(9)))
        for word in ("add", "sub", "mul", "less"):
            self.reasons_are(program, [], (word, name("a"), name("b")), [[], [1], [1, 2], [1, 2]])
            self.reasons_are(program, [], (word, name("c"), num(1)), [[], [], [], [3]])
            self.reasons_are(program, [], (word, num(1), name("c")), [[], [], [], [3]])
            self.reasons_are(program, [], (word, name("a"), name("a")), [[], [1], [1], [1]])
            self.reasons_are(program, [], (word, name("a"), cell(name("c"))), [[], [1], [1], [1, 3]])

    def test_each_step_once(self):
        # Each step reads the one ahead twice: followed for each read, this would never come to an end.
        program = (("set", "a", ("add", name("a"), name("a"))),) * 20
        tape = Tape(program + (("jump", 0),), [], 1, 60)
        wanted = [moment for moment in range(1, 61) if moment % 21 != 0]
        self.same(reasons(tape, 60, ("mul", name("a"), name("a"))), wanted)

    def test_jumps_and_what_they_read_are_no_reasons(self):
        program = (("set", "a", num(1)), ("unless", name("a"), 0), ("set", "b", num(2)), ("say", name("a")), STOP)
        self.reasons_are(program, [], name("b"), [[], [], [], [3], [3]])

    def test_what_is_set_from_itself_is_one_step_of_many(self):
        program = (("set", "a", name("a")), ("jump", 0))
        for tape in self.tapes(program, [], 7):
            self.same(reasons(tape, 7, name("a")), [1, 3, 5, 7])

    def test_within_calls(self):
        program = (("set", "a", num(2)), ("call", 4), ("call", 4), STOP, ("set", "a", ("mul", name("a"), name("a"))),
                   ("back",))
        self.reasons_are(program, [], name("a"), [[], [1], [1], [1, 3], [1, 3], [1, 3], [1, 3, 6], [1, 3, 6]])

    def test_sums_of_more_parts(self):
        term = name("a")
        for number in range(3000):
            term = ("add", cell(term), num(0)) if number % 2 else ("sub", num(0), term)
        program = (("put", num(0), num(4)), ("set", "a", num(4)), ("set", "b", num(1)))
        tape = Tape(program, [], 1, 50)
        self.same(reasons(tape, 3, term), [1, 2])
        self.same(needless(tape, 3, term), [3])

    def test_no_moment(self):
        for ask in (reasons, needless):
            for program, most, last in ((LOOP, 50, 12), (LOOP, 5, 5), ((), 50, 0)):
                for moment in (-2, -1, last + 1, last + 2, most + 1):
                    tape = Tape(program, [], 2, most)
                    with self.assertRaises(NoMoment, msg=(ask, moment)):
                        ask(tape, moment, num(1))
                    self.same(tape.moment(), 0)

    def test_lists_are_new_ones_each_time(self):
        tape = Tape(LOOP, [], 2, 50)
        for ask, wanted in ((reasons, [2, 6, 9]), (needless, [1, 5, 10])):
            ask(tape, 12, name("b")).clear()
            self.same(ask(tape, 12, name("b")), wanted)


class NeedlessTest(Told):
    def test_with_the_reasons_all_steps_that_wrote_and_none_in_both(self):
        programs = ((ALL_SORTS, [5]), (LOOP, []), (ASKING, [6, 70]), (BY_CELL, []))
        for program, asked in programs:
            for term in (num(1), name("a"), name("b"), cell(num(2)), cell(name("a")), ("add", name("c"), name("d"))):
                for tape in self.tapes(program, asked, 50):
                    wrote = [m for m in range(1, tape.end() + 1) if thing_written(tape, m) is not None]
                    for moment in range(tape.end() + 1):
                        one = reasons(tape, moment, term)
                        other = needless(tape, moment, term)
                        self.same(sorted(one + other), [m for m in wrote if m <= moment])
                        self.same(other, sorted(set(other)))
                    self.same(tape.moment(), 0)

    def test_what_it_tells(self):
        tape = Tape(LOOP, [], 1, 50)
        self.same(needless(tape, 0, name("a")), [])
        self.same(needless(tape, 12, name("a")), [1, 5, 9])
        self.same(needless(tape, 12, num(1)), [1, 2, 5, 6, 9, 10])
        self.same(needless(tape, 5, name("b")), [1])

    def test_a_step_that_wrote_the_same_worth_counts(self):
        program = (("set", "a", num(0)), ("set", "a", num(0)))
        self.same(needless(Tape(program, [], 1, 50), 2, name("a")), [1])
        self.same(reasons(Tape(program, [], 1, 50), 2, name("a")), [2])


class RemadeTest(Told):
    def worths(self, cells=(0, 0, 0, 0), **names):
        return (tuple([names.get(letter, 0) for letter in "abcdef"]), tuple(cells))

    def remade_is(self, program, asked, moments, wanted):
        for tape in self.tapes(program, asked, 50):
            tape.to(1)
            handed = list(moments)
            self.same(remade(tape, handed), wanted)
            self.same(handed, list(moments))
            self.same(tape.moment(), 1)

    def test_no_moments(self):
        self.remade_is(LOOP, [], [], self.worths())
        self.same(remade(Tape((), [], 1, 50), []), self.worths())
        self.same(remade(Tape(LOOP, [], 1, 0), []), self.worths())

    def test_all_moments_make_the_last_state(self):
        for program, asked in ((ALL_SORTS, [5]), (LOOP, []), (ASKING, [6, 70]), (BY_CELL, [])):
            for tape in self.tapes(program, asked, 50):
                for moment in range(tape.end() + 1):
                    self.same(remade(tape, list(range(1, moment + 1))), tape.at(moment)[1:3])

    def test_some(self):
        self.remade_is(LOOP, [], [2], self.worths(a=1))
        self.remade_is(LOOP, [], [6, 10], self.worths(a=2))
        self.remade_is(LOOP, [], [2, 5, 10], self.worths(a=2, b=1))
        self.remade_is(LOOP, [], [1, 3, 4, 7, 8, 11, 12], self.worths())

    def test_sums_by_what_names_and_cells_are_by_then(self):
        # Without the step to cell 1 the put's number is nought, and without d its worth.
        self.remade_is(BY_CELL, [], [4], self.worths())
        self.remade_is(BY_CELL, [], [2, 3, 4], self.worths((16, 0, 0, 8), d=2))
        self.remade_is(BY_CELL, [], [1, 2, 4], self.worths((0, 6, 0, 8)))
        self.remade_is(BY_CELL, [], [1, 2, 3, 4], self.worths((0, 6, 16, 8), d=2))

    def test_what_ask_brought_there(self):
        self.remade_is(ASKING, [6, 70, 5], [2], self.worths(b=70))
        self.remade_is(ASKING, [6, 70, 5], [6], self.worths(a=5))
        self.remade_is(ASKING, [6, 70], [1, 6], self.worths(a=0))
        self.remade_is(ASKING, [6, 70, 5], [2, 3, 5, 6], self.worths((70, 0, 0, 0), a=5, b=70, c=70))

    def test_other_orders_and_some_twice(self):
        wanted = self.worths((0, 6, 16, 8), d=2)
        self.remade_is(BY_CELL, [], [4, 3, 2, 1], wanted)
        self.remade_is(BY_CELL, [], [2, 4, 1, 3, 2, 4, 4], wanted)
        self.remade_is(LOOP, [], [2, 2, 2], self.worths(a=1))
        self.remade_is(LOOP, [], [10, 2, 10, 6, 2], self.worths(a=3))
        self.remade_is(LOOP, [], [5, 2], self.worths(a=1, b=1))

    def test_steps_that_write_nothing(self):
        # A back, whose call is not done, and a call more than are open, do nothing here.
        self.remade_is(ALL_SORTS, [5], [4, 5, 6, 7, 8, 10], self.worths())
        endless = Tape((("call", 0),), [], 1, 50)
        self.same(remade(endless, [6, 6, 1]), self.worths())

    def test_no_moment(self):
        for program, most, last in ((LOOP, 50, 12), (LOOP, 5, 5), ((), 50, 0)):
            # No step leads to the first moment.
            for moment in (-2, -1, 0, last + 1, last + 2, most + 1):
                for moments in ([moment], list(range(1, last + 1)) + [moment], [moment] + list(range(1, last + 1))):
                    tape = Tape(program, [], 2, most)
                    with self.assertRaises(NoMoment, msg=moments):
                        remade(tape, moments)
                    self.same(tape.moment(), 0)

    def test_the_reasons_make_the_worth_anew(self):
        for program, asked in ((LOOP, []), (ASKING, [6, 70]), (BY_CELL, [])):
            tape = Tape(program, asked, 2, 50)
            for term in (name("b"), name("c"), cell(name("a")), cell(cell(num(1))), ("mul", cell(num(2)), name("d"))):
                for moment in range(tape.end() + 1):
                    made = remade(tape, reasons(tape, moment, term))
                    state = (0,) + made + ((), 0, ())
                    self.same(reckoned(term, state), reckoned(term, tape.at(moment)))


if __name__ == "__main__":
    unittest.main()
