"""Promises 1.1 and 1.2, and 0.3 where it speaks of them."""

import copy
import unittest

from backtape.programs import is_program, is_sum

NUM = ("num", 3)
NAME = ("name", "a")
TWO_WORDS = ("add", "sub", "mul", "less")
NO_SUMS = (
    None, True, False, 0, 1, 3, -1, 10007, "", "a", "num", "num 3", "add a b",
    (), [], ((),), [[]], (None,), (0,), (True,),
    ["num", 3], ["name", "a"], ["cell", NUM], ["add", NUM, NAME],
    (["num"], 3), (("num",), 3), (("num", 3),), (NUM, NAME),
    ("num",), ("name",), ("cell",), ("add",), ("sub",), ("mul",), ("less",),
    ("num", 3, 3), ("num", 3, NUM), ("num", 3, None), ("name", "a", "b"), ("name", "a", NUM), ("cell", NUM, NUM),
    ("add", NUM), ("sub", NUM), ("mul", NUM), ("less", NUM),
    ("add", NUM, NUM, NUM), ("sub", NUM, NUM, NUM), ("mul", NUM, NUM, NUM), ("less", NUM, NUM, NUM),
    ("num", -1), ("num", 10007), ("num", 20000), ("num", -10007), ("num", True), ("num", False), ("num", None),
    ("num", "3"), ("num", "a"), ("num", [3]), ("num", (3,)), ("num", NUM), ("num", []), ("num", ()),
    ("name", "g"), ("name", "A"), ("name", ""), ("name", "ab"), ("name", "abcdef"), ("name", " a"), ("name", "a "),
    ("name", "`"), ("name", 0), ("name", 1), ("name", True), ("name", None), ("name", ["a"]), ("name", ("a",)),
    ("name", NAME), ("name", []), ("name", ()),
    ("cell", 0), ("cell", 3), ("cell", "a"), ("cell", None), ("cell", True), ("cell", ["num", 3]), ("cell", ()),
    ("Num", 3), ("NUM", 3), ("number", 3), ("", 3), (None, 3), (0, 3), (True, 3), ("div", NUM, NUM), ("more", NUM, NUM),
    ("neg", NUM), ("set", "a", NUM), ("put", NUM, NUM), ("say", NUM), ("stop",), ("back",), ("sum", NUM), ("worth", 3),
)


def chain(parts):
    """A sum of so many parts, each but the last a cell."""
    made = NUM
    for _ in range(parts - 1):
        made = ("cell", made)
    return made


def leaning(pairs, left):
    """A sum of 2 * pairs + 1 parts, all on one side."""
    made = NUM
    for _ in range(pairs):
        made = ("add", made, NAME) if left else ("add", NAME, made)
    return made


def even(depth):
    """A sum of 2 ** (depth + 1) - 1 parts, the same one on both sides."""
    made = NAME
    for _ in range(depth):
        made = ("mul", made, made)
    return made


class Told(unittest.TestCase):
    def sums(self, things, answer):
        for thing in things:
            self.assertIs(is_sum(thing), answer, thing)

    def programs(self, things, answer):
        for thing in things:
            self.assertIs(is_program(thing), answer, thing)

    def rows(self, rows, answer, places=1):
        """Each row as the first of a program with that many rows."""
        for row in rows:
            program = (row,) + (("stop",),) * (places - 1)
            self.assertIs(is_program(program), answer, row)


class SumsTest(Told):
    def test_each_form_is_a_sum(self):
        self.sums([NUM, NAME, ("cell", NUM), ("cell", NAME)], True)
        self.sums([(word, NUM, NAME) for word in TWO_WORDS], True)
        self.sums([(word, ("cell", NAME), (word, NUM, NUM)) for word in TWO_WORDS], True)

    def test_worths_at_the_bounds(self):
        self.sums([("num", worth) for worth in (0, 1, 5003, 10005, 10006)], True)
        self.sums([("num", worth) for worth in (-1, -2, 10007, 10008, -10006)], False)

    def test_truths_are_no_worths(self):
        self.sums([("num", True), ("num", False), ("add", ("num", True), NUM), ("cell", ("num", False))], False)

    def test_just_the_letters_a_to_f_are_names(self):
        self.sums([("name", letter) for letter in "abcdef"], True)
        self.sums([("name", letter) for letter in "ghijklmnopqrstuvwxyzABCDEF0123456789`{ "], False)
        self.sums([("name", text) for text in ("", "ab", "bc", "abcdef", "aa", "a\n", "num")], False)

    def test_fifteen_parts_are_a_sum_and_sixteen_are_none(self):
        self.sums([chain(14), chain(15), leaning(7, True), leaning(7, False), even(3)], True)
        self.sums([chain(16), chain(17), leaning(8, True), leaning(8, False), even(4)], False)
        self.sums([("cell", even(3)), ("cell", leaning(7, True)), ("cell", leaning(7, False))], False)
        self.sums([("add", chain(7), chain(7)), ("add", chain(1), chain(13)), ("add", chain(13), chain(1))], True)
        self.sums([("add", chain(7), chain(8)), ("add", chain(1), chain(14)), ("add", chain(14), chain(1))], False)

    def test_equal_parts_are_counted_each(self):
        self.sums([even(2), ("add", even(2), even(2))], True)
        self.sums([("add", even(2), ("cell", even(2)))], False)

    def test_far_too_many_parts_are_no_sum(self):
        self.sums([chain(60), leaning(40, True), leaning(40, False), even(40)], False)

    def test_other_things_are_no_sums(self):
        self.sums(NO_SUMS, False)

    def test_other_things_make_what_they_stand_in_no_sum(self):
        for thing in NO_SUMS:
            self.sums([("cell", thing), ("cell", ("cell", ("cell", thing)))], False)
            for word in TWO_WORDS:
                self.sums([(word, thing, NUM), (word, NUM, thing), (word, thing, thing)], False)
            self.sums([("add", NUM, ("sub", ("cell", ("mul", NAME, thing)), NAME))], False)
            self.sums([("less", ("less", ("less", ("less", thing, NUM), NUM), NUM), NUM)], False)

    def test_lists_in_the_place_of_tuples_at_any_depth(self):
        for depth in range(1, 10):
            thing = ["num", 3]
            for _ in range(depth):
                thing = ("cell", thing)
            self.sums([thing], False)
            thing = ("num", 3)
            for _ in range(depth):
                thing = ["cell", thing]
            self.sums([thing, [thing], (thing,)], False)

    def test_things_ten_deep(self):
        for bottom in (None, True, 5, "a", (), []):
            nested_tuple = bottom
            nested_list = bottom
            for _ in range(12):
                nested_tuple = (nested_tuple,)
                nested_list = [nested_list, nested_list]
            self.sums([nested_tuple, nested_list, ("num", nested_list), ("name", nested_tuple)], False)
            self.programs([nested_tuple, nested_list, (("say", nested_list),)], False)

    def test_what_is_handed_in_is_not_changed(self):
        things = [["num", [3]], ("add", ["num", 3], ["name", "a"]), ("cell", [["cell", NUM]]), ("num", [1, 2])]
        before = copy.deepcopy(things)
        self.sums(things, False)
        self.programs(things, False)
        self.assertEqual(things, before)


class ProgramsTest(Told):
    def test_each_form_of_a_row(self):
        self.rows([("set", "a", NUM), ("put", NUM, NAME), ("ask", "f"), ("say", NAME)], True)
        self.rows([("jump", 0), ("unless", NAME, 0), ("call", 0), ("back",), ("stop",)], True)

    def test_a_program_of_all_rows(self):
        rows = (
            ("set", "a", NUM), ("put", NUM, NAME), ("ask", "f"), ("say", NAME), ("jump", 9), ("unless", NAME, 3),
            ("call", 8), ("back",), ("stop",),
        )
        self.programs([rows, tuple(reversed(rows))], True)

    def test_up_to_twenty_rows(self):
        self.programs([()], True)
        for row in (("stop",), ("say", NUM), ("ask", "a")):
            self.programs([(row,) * many for many in (1, 2, 19, 20)], True)
            self.programs([(row,) * many for many in (21, 22, 40)], False)
        self.programs([(("jump", 20),) * 20, (("jump", 19),) * 20], True)
        self.programs([(("jump", 21),) * 20, (("jump", 21),) * 21, (("jump", 0),) * 21], False)

    def test_places_at_the_bounds(self):
        for many in (1, 2, 3, 20):
            for place in range(many + 1):
                self.rows([("jump", place), ("call", place), ("unless", NUM, place)], True, many)
            for place in (-1, -2, -many, many + 1, many + 2, 10007):
                self.rows([("jump", place), ("call", place), ("unless", NUM, place)], False, many)

    def test_places_are_whole_numbers(self):
        for place in (True, False, None, "0", "a", (), [], [0], (0,), NUM, ("num", 0)):
            self.rows([("jump", place), ("call", place), ("unless", NUM, place)], False, 3)

    def test_places_in_a_later_row(self):
        self.programs([(("stop",), ("jump", 2)), (("stop",), ("call", 0)), (("back",), ("unless", NUM, 2))], True)
        self.programs([(("stop",), ("jump", 3)), (("stop",), ("call", -1)), (("back",), ("unless", NUM, 3))], False)

    def test_names_in_rows(self):
        self.rows([("set", letter, NUM) for letter in "abcdef"], True)
        self.rows([("ask", letter) for letter in "abcdef"], True)
        for name in ("g", "A", "", "ab", "abcdef", 0, 1, True, None, ("a",), ["a"], NAME, (), []):
            self.rows([("set", name, NUM), ("ask", name)], False)

    def test_sums_in_rows_are_sums(self):
        for term in (chain(15), even(3), leaning(7, True), ("num", 0), ("num", 10006)):
            rows = [("set", "a", term), ("put", term, term), ("say", term), ("unless", term, 1)]
            self.rows(rows, True)
        for thing in NO_SUMS + (chain(16), even(4), leaning(8, False), even(40)):
            rows = [("set", "a", thing), ("put", thing, NUM), ("put", NUM, thing), ("say", thing), ("unless", thing, 1)]
            self.rows(rows, False)

    def test_rows_too_short_or_too_long(self):
        self.rows([("set",), ("set", "a"), ("put",), ("put", NUM), ("ask",), ("say",), ("jump",)], False)
        self.rows([("unless",), ("unless", NUM), ("call",), ()], False)
        self.rows([("set", "a", NUM, NUM), ("put", NUM, NUM, NUM), ("ask", "a", NUM), ("ask", "a", "b")], False)
        self.rows([("say", NUM, NUM), ("jump", 0, 0), ("unless", NUM, 0, 0), ("call", 0, 0)], False)
        self.rows([("back", 0), ("stop", 0), ("back", None), ("stop", None), ("stop", "stop")], False)

    def test_parts_in_another_order(self):
        self.rows([("set", NUM, "a"), ("unless", 0, NUM)], False)

    def test_other_things_are_no_rows(self):
        others = [
            None, True, False, 0, 1, "", "stop", "back", "a", [], ["stop"], ["back"], ["say", NUM], ["jump", 0],
            ["set", "a", NUM], ("go", 0), ("Stop",), ("halt",), ("", NUM), (None,), (0,), (True,), (["stop"],),
            (("stop",),), (("stop",), ("stop",)), NUM, NAME, ("cell", NUM), ("add", NUM, NAME), ("less", NUM, NAME),
        ]
        self.rows(others, False)
        self.rows(others, False, 3)
        for other in others:
            self.programs([(("stop",), other), (("stop",), other, ("stop",))], False)

    def test_other_things_are_no_programs(self):
        self.programs([None, True, False, 0, 1, 20, -1, "", "stop", "stop\n", [], [("stop",)], [["stop"]], [()]], False)
        self.programs([("stop",), ("back",), ("jump", 0), ("say", NUM), NUM, NAME, ((),), (None,), (0,), ("",)], False)
        self.programs([[("say", NUM), ("stop",)], (["stop"],), ("stop", "back"), (True,), ([],)], False)

    def test_what_is_handed_in_is_not_changed(self):
        things = [[("stop",)], (["say", ["num", 3]],), (("say", ["num", [3]]),), [["set", "a", ["num", 3]]]]
        before = copy.deepcopy(things)
        self.programs(things, False)
        self.assertEqual(things, before)


if __name__ == "__main__":
    unittest.main()
