"""Promises 2.1, 2.2 and 2.3, and 0.2 and 0.3 where they speak of them."""

import copy
import unittest

from backtape.errors import NoThing
from backtape.steps import begun, is_over, reckoned, states, stepped, with_thing, worth_in
from helper import NO_THINGS, STOP, cell, kinds, name, num

STATE = (0, (11, 22, 33, 44, 55, 10006), (101, 102, 103, 104), (4, 1), 1, (7, 8))


def at(row, calls=(), state=STATE):
    """The state, but with another place next and other calls."""
    return (row, state[1], state[2], calls) + state[4:]


class Told(unittest.TestCase):
    def same(self, told, wanted):
        self.assertEqual(kinds(told), kinds(wanted))

    def reckon(self, term, worth, state=STATE):
        before = copy.deepcopy((term, state))
        self.same(reckoned(term, state), worth)
        self.same((term, state), before)

    def step(self, program, asked, state, wanted):
        before = copy.deepcopy((program, asked, state))
        self.assertIs(is_over(program, state), False)
        self.same(stepped(program, asked, state), wanted)
        self.same(stepped(program, asked, state), wanted)
        self.same((program, asked, state), before)

    def over(self, program, state, answer):
        before = copy.deepcopy((program, state))
        self.assertIs(is_over(program, state), answer, (program, state))
        self.same((program, state), before)


class BegunTest(Told):
    def test_all_nought(self):
        self.same(begun(), (0, (0, 0, 0, 0, 0, 0), (0, 0, 0, 0), (), 0, ()))

    def test_every_time_the_same(self):
        self.same(begun(), begun())


class ThingsTest(Told):
    def test_the_worth_of_each_thing(self):
        for letter, worth in zip("abcdef", STATE[1]):
            self.same(worth_in(STATE, letter), worth)
        for number, worth in enumerate(STATE[2]):
            self.same(worth_in(STATE, number), worth)

    def test_no_thing(self):
        for thing in NO_THINGS:
            with self.assertRaises(NoThing, msg=thing):
                worth_in(STATE, thing)

    def test_another_worth_of_a_thing_and_of_no_other(self):
        self.same(with_thing(STATE, "e", 9), (0, (11, 22, 33, 44, 9, 10006)) + STATE[2:])
        self.same(with_thing(STATE, 0, 9), STATE[:2] + ((9, 102, 103, 104),) + STATE[3:])


class ReckonedTest(Told):
    def test_numbers(self):
        for worth in (0, 1, 7, 10006):
            self.reckon(num(worth), worth)
            self.reckon(num(worth), worth, begun())

    def test_names(self):
        for letter, worth in zip("abcdef", STATE[1]):
            self.reckon(name(letter), worth)
            self.reckon(name(letter), 0, begun())

    def test_cells(self):
        for number, worth in enumerate(STATE[2]):
            self.reckon(cell(num(number)), worth)
            self.reckon(cell(num(number)), 0, begun())

    def test_the_cell_is_that_of_the_rest_by_4(self):
        for number in (4, 5, 6, 7, 8, 9, 10, 11, 10003, 10004, 10005, 10006):
            self.reckon(cell(num(number)), STATE[2][number % 4])
        self.reckon(cell(name("a")), 104)
        self.reckon(cell(name("f")), 103)
        self.reckon(cell(cell(num(1))), 103)
        self.reckon(cell(("add", name("a"), num(1))), 101)

    def test_the_cell_is_that_of_the_one_s_worth_in_its_rest_by_10007(self):
        self.reckon(cell(("add", num(10006), num(1))), 101)
        self.reckon(cell(("add", num(10006), num(2))), 102)
        self.reckon(cell(("sub", num(0), num(1))), 103)

    def test_add(self):
        self.reckon(("add", num(2), num(3)), 5)
        self.reckon(("add", name("a"), cell(num(1))), 113)
        self.reckon(("add", num(10005), num(1)), 10006)
        self.reckon(("add", num(10006), num(1)), 0)
        self.reckon(("add", num(1), num(10006)), 0)
        self.reckon(("add", num(10006), num(10006)), 10005)
        self.reckon(("add", num(0), num(0)), 0)

    def test_sub(self):
        self.reckon(("sub", num(5), num(3)), 2)
        self.reckon(("sub", num(3), num(5)), 10005)
        self.reckon(("sub", num(0), num(1)), 10006)
        self.reckon(("sub", num(0), num(10006)), 1)
        self.reckon(("sub", num(10006), num(0)), 10006)
        self.reckon(("sub", num(9), num(9)), 0)
        self.reckon(("sub", name("b"), name("a")), 11)
        self.reckon(("sub", name("a"), name("b")), 9996)

    def test_mul(self):
        self.reckon(("mul", num(6), num(7)), 42)
        self.reckon(("mul", num(0), num(10006)), 0)
        self.reckon(("mul", num(10006), num(1)), 10006)
        self.reckon(("mul", num(10006), num(10006)), 1)
        self.reckon(("mul", num(2), num(5003)), 10006)
        self.reckon(("mul", num(2), num(5004)), 1)
        self.reckon(("mul", num(101), num(100)), 93)
        self.reckon(("mul", name("a"), name("b")), 242)

    def test_less(self):
        self.reckon(("less", num(2), num(3)), 1)
        self.reckon(("less", num(3), num(2)), 0)
        self.reckon(("less", num(3), num(3)), 0)
        self.reckon(("less", num(0), num(10006)), 1)
        self.reckon(("less", num(10006), num(0)), 0)
        self.reckon(("less", name("a"), name("b")), 1)
        self.reckon(("less", name("b"), name("a")), 0)
        self.reckon(("less", ("sub", num(0), num(1)), num(5)), 0)

    def test_sums_in_sums(self):
        self.reckon(("sub", ("sub", num(9), num(4)), ("sub", num(3), num(1))), 3)
        self.reckon(("sub", num(9), ("sub", num(4), ("sub", num(3), num(1)))), 7)
        self.reckon(("sub", ("sub", ("sub", num(9), num(4)), num(3)), num(1)), 1)
        self.reckon(("sub", cell(num(3)), ("mul", num(2), ("less", num(1), cell(num(0))))), 102)
        self.reckon(("less", ("mul", num(2), num(3)), ("add", num(3), cell(("sub", num(3), num(2))))), 1)
        self.reckon(("mul", ("add", num(10006), num(1)), num(5)), 0)

    def test_sums_of_more_than_fifteen_parts(self):
        doubled = num(1)
        for _ in range(6):
            doubled = ("add", doubled, doubled)
        self.reckon(doubled, 64)
        left = num(0)
        right = num(0)
        for number in range(20):
            left = ("sub", left, num(number))
            right = ("sub", num(number), right)
        self.reckon(left, 10007 - 190)
        self.reckon(right, 10)

    def test_sums_of_very_many_parts(self):
        left = num(0)
        right = num(0)
        deep = num(2)
        for _ in range(3000):
            left = ("add", left, num(4))
            right = ("add", num(4), right)
            deep = cell(deep)
        # Plain comparisons: copies and kinds of such deep tuples would be beyond what Python nests.
        self.assertEqual(reckoned(left, STATE), 12000 - 10007)
        self.assertEqual(reckoned(right, STATE), 12000 - 10007)
        self.assertEqual(reckoned(deep, (0, (0,) * 6, (0, 2, 1, 3), (), 0, ())), 2)


class IsOverTest(Told):
    PROGRAM = (
        ("set", "a", num(1)), ("put", num(1), num(2)), ("ask", "b"), ("say", num(0)), ("jump", 0),
        ("unless", num(0), 3), ("call", 1), ("back",), STOP,
    )

    def test_behind_all_rows(self):
        self.over((), begun(), True)
        self.over(self.PROGRAM, at(9), True)
        self.over(self.PROGRAM, at(9, (1, 2)), True)
        self.over((("say", num(1)),), at(1), True)
        self.over((("say", num(1)),), at(0), False)

    def test_a_stop(self):
        self.over(self.PROGRAM, at(8), True)
        self.over(self.PROGRAM, at(8, (1,)), True)
        self.over(self.PROGRAM, at(8, (1,) * 6), True)

    def test_a_back(self):
        self.over(self.PROGRAM, at(7), True)
        for many in range(1, 7):
            self.over(self.PROGRAM, at(7, (0,) * many), False)

    def test_a_call(self):
        for many in range(6):
            self.over(self.PROGRAM, at(6, (3,) * many), False)
        self.over(self.PROGRAM, at(6, (3,) * 6), True)

    def test_not_elsewhere(self):
        for row in range(6):
            for many in range(7):
                self.over(self.PROGRAM, at(row, (2,) * many), False)

    def test_a_jump_to_itself_is_not_over(self):
        self.over((("jump", 0),), begun(), False)


class SteppedTest(Told):
    def test_set(self):
        for number, letter in enumerate("abcdef"):
            worths = list(STATE[1])
            worths[number] = 99
            wanted = (1, tuple(worths)) + STATE[2:]
            self.step((("set", letter, num(99)),), [], STATE, wanted)

    def test_set_by_what_was_ahead(self):
        program = (STOP, ("set", "b", ("add", name("b"), ("mul", name("a"), num(2)))), STOP)
        self.step(program, [5], at(1, (2,)), (2, (11, 44, 33, 44, 55, 10006), STATE[2], (2,), 1, (7, 8)))

    def test_set_takes_the_rest(self):
        program = (("set", "f", ("add", name("f"), num(2))),)
        self.step(program, [], STATE, (1, (11, 22, 33, 44, 55, 1)) + STATE[2:])

    def test_set_of_the_same_worth(self):
        self.step((("set", "a", num(11)),), [], STATE, (1,) + STATE[1:])

    def test_put(self):
        for number in (0, 1, 2, 3, 4, 5, 6, 7, 10003, 10004, 10005, 10006):
            worths = list(STATE[2])
            worths[number % 4] = 9
            self.step((("put", num(number), num(9)),), [], STATE, (1, STATE[1], tuple(worths)) + STATE[3:])

    def test_put_by_what_was_ahead(self):
        # The number's worth is 101 + 22, of which the rest is 3; the worth is what that cell had, and 1.
        program = (("put", ("add", cell(num(0)), name("b")), ("add", cell(num(3)), num(1))), STOP)
        self.step(program, [], STATE, (1, STATE[1], (101, 102, 103, 105)) + STATE[3:])
        program = (("put", cell(num(1)), cell(num(2))),)
        self.step(program, [], STATE, (1, STATE[1], (101, 102, 103, 104)) + STATE[3:])
        program = (("put", cell(num(0)), cell(num(0))),)
        self.step(program, [], STATE, (1, STATE[1], (101, 101, 103, 104)) + STATE[3:])

    def test_put_by_the_rest_of_its_number(self):
        program = (("put", ("sub", num(0), num(1)), num(0)),)
        self.step(program, [], STATE, (1, STATE[1], (101, 102, 0, 104)) + STATE[3:])

    def test_ask(self):
        for number, letter in enumerate("abcdef"):
            worths = list(STATE[1])
            worths[number] = 61
            program = (("ask", letter),)
            self.step(program, [60, 61, 62], STATE, (1, tuple(worths)) + STATE[2:4] + (2, (7, 8)))

    def test_ask_the_first_and_the_last(self):
        program = (("ask", "c"), STOP)
        self.step(program, [10006], begun(), (1, (0, 0, 10006, 0, 0, 0), (0,) * 4, (), 1, ()))
        self.step(program, [5, 6], STATE, (1, (11, 22, 6, 44, 55, 10006)) + STATE[2:4] + (2, (7, 8)))

    def test_ask_behind_the_last(self):
        program = (("ask", "c"), STOP)
        nought = (11, 22, 0, 44, 55, 10006)
        self.step(program, [5], STATE, (1, nought) + STATE[2:4] + (2, (7, 8)))
        self.step(program, [], STATE, (1, nought) + STATE[2:4] + (2, (7, 8)))
        later = STATE[:4] + (9, ())
        self.step(program, [5, 6], later, (1, nought) + STATE[2:4] + (10, ()))
        self.step(program, [], begun(), (1,) + begun()[1:4] + (1, ()))

    def test_say(self):
        self.step((("say", num(0)),), [], STATE, (1,) + STATE[1:5] + ((7, 8, 0),))
        self.step((("say", name("f")),), [], STATE, (1,) + STATE[1:5] + ((7, 8, 10006),))
        self.step((("say", ("less", num(1), num(2))),), [], begun(), (1,) + begun()[1:5] + ((1,),))

    def test_unless_goes_on_where_its_worth_is_not_0(self):
        for term in (num(1), num(2), num(10006), name("a"), cell(num(0)), ("less", num(1), num(2))):
            for place in (0, 1, 2, 3, 4):
                program = (STOP, STOP, ("unless", term, place), STOP)
                self.step(program, [], at(2), at(3))

    def test_unless_goes_to_its_place_where_it_is_0(self):
        for term in (num(0), ("less", num(2), num(1)), ("add", num(10006), num(1)), ("sub", name("a"), num(11))):
            for place in (0, 1, 2, 3, 4):
                program = (STOP, STOP, ("unless", term, place), STOP)
                self.step(program, [], at(2, (1,)), at(place, (1,)))

    def test_jump(self):
        for place in (0, 1, 2, 3, 4):
            program = (STOP, STOP, ("jump", place), STOP)
            self.step(program, [1], at(2, (1, 3)), at(place, (1, 3)))

    def test_call(self):
        for place in (0, 1, 2, 3, 4):
            program = (STOP, STOP, ("call", place), STOP)
            self.step(program, [], at(2), at(place, (3,)))
            self.step(program, [], at(2, (4, 1)), at(place, (4, 1, 3)))
            self.step(program, [], at(2, (1, 2, 3, 4, 0)), at(place, (1, 2, 3, 4, 0, 3)))

    def test_call_in_the_last_row(self):
        self.step((STOP, ("call", 0)), [], at(1), at(0, (2,)))

    def test_back(self):
        program = (STOP, ("back",), STOP, STOP)
        for place in (0, 1, 2, 3, 4):
            self.step(program, [], at(1, (place,)), at(place))
            self.step(program, [], at(1, (2, 3, place)), at(place, (2, 3)))
        self.step(program, [], at(1, (1, 2, 3, 4, 0, 2)), at(2, (1, 2, 3, 4, 0)))

    def test_sums_of_more_than_fifteen_parts_in_rows(self):
        term = num(1)
        for _ in range(20):
            term = ("add", term, num(1))
        self.step((("say", term),), [], begun(), (1,) + begun()[1:5] + ((21,),))
        self.step((("set", "b", term),), [], begun(), (1, (0, 21, 0, 0, 0, 0)) + begun()[2:])
        self.step((("put", term, term),), [], begun(), (1, (0,) * 6, (0, 21, 0, 0), (), 0, ()))
        self.step((("unless", ("sub", term, num(21)), 0),), [], begun(), begun())


class StatesTest(Told):
    COUNTING = (
        ("set", "a", ("add", name("a"), num(1))), ("unless", ("less", num(2), name("a")), 0), ("say", name("a")),
    )
    CALLING = (
        ("ask", "b"), ("call", 4), ("say", name("c")), STOP,
        ("put", name("b"), name("b")), ("set", "c", num(5)), ("back",),
    )

    def run_of(self, program, asked, many, wanted):
        before = copy.deepcopy((program, asked))
        self.same(states(program, asked, many), wanted)
        self.same((program, asked), before)

    def test_no_steps(self):
        self.run_of(self.COUNTING, [], 0, [begun()])
        self.run_of((), [1, 2], 0, [begun()])
        self.run_of((STOP,), [], 0, [begun()])

    def test_a_run_that_ends_ahead(self):
        counted = [(0, 0), (1, 1), (0, 1), (1, 2), (0, 2), (1, 3), (2, 3), (3, 3)]
        wanted = [(row, (worth, 0, 0, 0, 0, 0), (0,) * 4, (), 0, ()) for row, worth in counted]
        wanted[-1] = wanted[-1][:5] + ((3,),)
        for many in (7, 8, 9, 100):
            self.run_of(self.COUNTING, [], many, wanted)
        for many in range(7):
            self.run_of(self.COUNTING, [], many, wanted[:many + 1])

    def test_a_run_with_a_call(self):
        wanted = [
            begun(),
            (1, (0, 6, 0, 0, 0, 0), (0, 0, 0, 0), (), 1, ()),
            (4, (0, 6, 0, 0, 0, 0), (0, 0, 0, 0), (2,), 1, ()),
            (5, (0, 6, 0, 0, 0, 0), (0, 0, 6, 0), (2,), 1, ()),
            (6, (0, 6, 5, 0, 0, 0), (0, 0, 6, 0), (2,), 1, ()),
            (2, (0, 6, 5, 0, 0, 0), (0, 0, 6, 0), (), 1, ()),
            (3, (0, 6, 5, 0, 0, 0), (0, 0, 6, 0), (), 1, (5,)),
        ]
        self.run_of(self.CALLING, [6, 7], 50, wanted)

    def test_a_run_that_does_not_end(self):
        self.run_of((("jump", 0),), [], 5, [begun()] * 6)
        told = states((("ask", "a"), ("say", name("a")), ("jump", 0)), [4, 5], 12)
        self.assertEqual(len(told), 13)
        self.same(told[-1], (0, (0, 0, 0, 0, 0, 0), (0,) * 4, (), 4, (4, 5, 0, 0)))

    def test_a_run_over_at_once(self):
        for program in ((), (STOP,), (("back",),)):
            self.run_of(program, [3], 9, [begun()])

    def test_a_run_that_ends_behind_all_rows(self):
        self.run_of((("jump", 1),), [], 9, [begun(), at(1, (), begun())])

    def test_a_run_that_ends_at_the_seventh_call(self):
        wanted = [at(0, (1,) * many, begun()) for many in range(7)]
        self.run_of((("call", 0),), [], 50, wanted)

    def test_a_run_that_ends_at_a_back_without_a_call(self):
        program = (("call", 1), ("back",))
        wanted = [begun(), at(1, (1,), begun()), at(1, (), begun())]
        self.run_of(program, [], 50, wanted)

    def test_each_state_is_a_step_behind_the_one_ahead(self):
        told = states(self.CALLING, [6], 50)
        for ahead, behind in zip(told, told[1:]):
            self.step(self.CALLING, [6], ahead, behind)
        self.over(self.CALLING, told[-1], True)

    def test_the_list_is_a_new_one_each_time(self):
        one = states(self.COUNTING, [], 3)
        other = states(self.COUNTING, [], 3)
        self.assertIsNot(one, other)
        one.clear()
        self.assertEqual(len(other), 4)
        self.assertEqual(states(self.COUNTING, [], 3), other)
        first = states((), [], 0)
        first.append(None)
        self.assertEqual(states((), [], 0), [begun()])

    def test_many_steps(self):
        told = states((("set", "a", ("add", name("a"), num(1))), ("jump", 0)), [], 20100)
        self.assertEqual(len(told), 20101)
        self.same(told[2 * 10006][1][0], 10006)
        self.same(told[2 * 10007][1][0], 0)
        self.same(told[-1][1][0], 10050 - 10007)


if __name__ == "__main__":
    unittest.main()
