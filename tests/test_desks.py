"""Promises 10.1 and 10.2, and 0.3 where it speaks of them."""

import unittest

from backtape.asking import last_change, next_so, sum_at
from backtape.desks import Desk
from backtape.reasons import reasons
from backtape.steps import states
from backtape.tapes import Tape
from backtape.texts import read_sum
from helper import STOP, THINGS, kinds, name, num

# A call within a call, and behind it one alone; the last moment is 9. a is 1 from moment 4 on, 2 from 8 on.
NESTED = (
    ("ask", "b"), ("call", 4), ("call", 6), STOP,
    ("call", 6), ("back",),
    ("set", "a", ("add", name("a"), num(1))), ("back",),
)
# The places that are next at each moment.
PLACES = (0, 1, 4, 6, 7, 5, 2, 6, 7, 3)
# Goes on for ever.
ENDLESS = (("set", "a", ("add", name("a"), num(1))), ("jump", 0))
QUESTIONS = ("where", "end", "worth a", "worth 3", "last a", "last 0", "why a", "why 1")
NO_LINES = (
    "", " ", "  ", "where ", " where", "where where", "where 1", "Where", "WHERE", "end ", " end", "end 1", "end end",
    "go", "go ", "go  1", " go 1", "go 1 ", "go 1 1", "go a", "go -1", "go +1", "go 1.0", "go 123456", "go 000000", "go1",
    "go x", "back", "back ", "back  1", "back 1 2", "back a", "back -1", "back 100000", "backs 1", "back over", "back out",
    "to", "to ", "to  1", "to 1 2", "to -1", "to +1", "to 100000", "to 000001", "to here", "to a", "to where", "to Where",
    "to mark", "over 1", "over ", " over", "out 1", "out ", "backover 1", "backover ", "backout 1", "backout ", "Over",
    "mark", "mark ", "mark  a", "mark a b", "mark a ", "mark abcdefg", "mark A", "mark aB", "mark a1", "mark 1", "mark a-b",
    "mark backout", "mark ~", "marks a", "worth", "worth ", "worth  1", "worth 1 ", "worth 1 2", "worth g", "worth add 1",
    "worth 10007", "worth 01", "worth add 1  2", "worth -1", "worths 1", "worth num 1", "until", "until ", "until 1 2",
    "until g", "until 00", "until  a", "until a ", "until add", "last", "last ", "last  a", "last a ", "last a b",
    "last 0 1", "last g h", "last  ", "lasts a", "why", "why ", "why 1 2", "why g", "why 007", "why  a", "why a ", "whys a",
    "help", "stop", "quit", "a", "1", "0", "say 1", "add 1 2", "no line", "marked", "never", "at 0 row 0", "~", "say", "go,1",
)
NO_THING_LINES = (
    "last g", "last z", "last A", "last aa", "last ab", "last 4", "last 5", "last 9", "last 10", "last 00", "last 01",
    "last 10006", "last -1", "last +1", "last cell", "last where", "last ~", "last 0x1", "last ,", "last 1a", "last None",
)


def where(moment):
    return f"at {moment} row {PLACES[moment]}"


class Told(unittest.TestCase):
    def setUp(self):
        self.desk = Desk(NESTED, [5], 50)

    def says(self, *lines_and_replies):
        """That each line has the reply behind it, one line behind the other."""
        for line, reply in zip(lines_and_replies[::2], lines_and_replies[1::2], strict=True):
            self.assertEqual(kinds(self.desk.say(line)), kinds(reply), line)

    def from_each(self, line, wanted):
        """That the line has these replies at the moments from the first one on, each at a new desk and at one."""
        for moment, reply in enumerate(wanted):
            self.desk = Desk(NESTED, [5], 50)
            self.says(f"to {moment}", where(moment), line, reply)
        for moment, reply in reversed(list(enumerate(wanted))):
            self.says(f"to {moment}", where(moment), line, reply)


class LookTest(Told):
    def test_the_places(self):
        self.assertEqual([state[0] for state in states(NESTED, [5], 50)], list(PLACES))

    def test_where(self):
        self.says("where", "at 0 row 0", "where", "at 0 row 0")
        self.from_each("where", [where(moment) for moment in range(10)])

    def test_end(self):
        self.from_each("end", ["9"] * 10)
        self.desk = Desk((), [], 50)
        self.says("end", "0", "where", "at 0 row 0")
        for most in (0, 1, 7):
            self.desk = Desk(ENDLESS, [], most)
            self.says("end", str(most))

    def test_go(self):
        self.says("go 1", where(1), "go 3", where(4), "where", where(4), "go 0", where(4), "go 5", where(9))
        self.says("go 1", where(9), "go 99999", where(9), "back 9", where(0), "go 10", where(9))
        self.from_each("go 2", [where(min(moment + 2, 9)) for moment in range(10)])

    def test_back(self):
        self.says("back 1", where(0), "to 9", where(9), "back 1", where(8), "back 0", where(8), "back 5", where(3))
        self.says("back 4", where(0), "go 4", where(4), "back 99999", where(0))
        self.from_each("back 2", [where(max(moment - 2, 0)) for moment in range(10)])

    def test_to(self):
        for moment in (9, 0, 5, 5, 1):
            self.says(f"to {moment}", where(moment), "where", where(moment))

    def test_numbers_of_one_to_five_figures(self):
        self.says("to 5", where(5), "to 05", where(5), "to 00009", where(9), "back 003", where(6), "go 00001", where(7))
        self.says("go 00000", where(7), "to 0000", where(0), "go 10007", where(9), "to 000005", "no line")

    def test_steps_over_and_out(self):
        self.from_each("over", [where(moment) for moment in (1, 6, 5, 4, 5, 6, 9, 8, 9, 9)])
        self.from_each("out", [where(moment) for moment in (9, 9, 6, 5, 5, 6, 9, 9, 9, 9)])
        self.from_each("backover", [where(moment) for moment in (0, 0, 1, 2, 3, 2, 1, 6, 7, 6)])
        self.from_each("backout", [where(moment) for moment in (0, 0, 1, 2, 2, 1, 0, 6, 6, 0)])

    def test_one_step_behind_the_other(self):
        self.says("over", where(1), "over", where(6), "backover", where(1), "go 2", where(3), "out", where(5))
        self.says("out", where(6), "backout", where(0), "out", where(9))

    def test_most_ends_the_run(self):
        self.desk = Desk(NESTED, [5], 4)
        self.says("end", "4", "over", where(1), "over", where(4), "to 5", "no moment", "go 9", where(4), "out", where(4))
        self.desk = Desk(NESTED, [5], 0)
        self.says("go 3", where(0), "over", where(0), "out", where(0), "backover", where(0), "to 1", "no moment")

    def test_a_long_run(self):
        self.desk = Desk(ENDLESS, [], 3000)
        self.says("to 2999", "at 2999 row 1", "worth a", "1500", "last a", "2999", "until less a 1500", "never")
        self.says("go 7", "at 3000 row 0", "back 2990", "at 10 row 0", "until less 700 a", "at 1401 row 1", "end", "3000")


class MarkTest(Told):
    def test_marks(self):
        self.says("mark here", "marked", "go 4", where(4), "mark there", "marked", "where", where(4))
        self.says("go 4", where(8), "to here", where(0), "to there", where(4), "to there", where(4), "to 7", where(7))

    def test_a_mark_is_kept_anew(self):
        self.says("mark x", "marked", "go 4", where(4), "mark x", "marked", "to 0", where(0), "to x", where(4))

    def test_words_of_one_to_six_letters(self):
        for number, word in enumerate(("a", "z", "ab", "abcdef", "zzzzzz", "tape")):
            self.says(f"to {number}", where(number), f"mark {word}", "marked")
        for number, word in enumerate(("a", "z", "ab", "abcdef", "zzzzzz", "tape")):
            self.says(f"to {word}", where(number))
        self.says("mark abcdefg", "no line", "to abcdefg", "no line")

    def test_words_that_are_lines_or_names_themselves(self):
        words = ("where", "end", "go", "back", "to", "over", "out", "mark", "worth", "until", "last", "why", "a", "f", "add",
                 "cell", "never", "by", "no", "line", "num")
        for number, word in enumerate(words):
            self.says(f"to {number % 10}", where(number % 10), f"mark {word}", "marked")
        for number, word in enumerate(words):
            self.says(f"to {word}", where(number % 10))
        # The lines and the names are what they were.
        self.says("to 4", where(4), "where", where(4), "end", "9", "worth a", "1", "last a", "4", "over", where(5))
        self.says("last never", "no thing", "go", "no line", "go a", "no line", "back to", "no line")

    def test_a_word_by_which_none_is_kept(self):
        self.says("to here", "no line", "mark here", "marked", "to there", "no line", "to her", "no line", "go 2", where(2))
        self.says("to heres", "no line", "to here", where(0))

    def test_a_refused_mark_keeps_nothing(self):
        for word in ("A", "a1", "abcdefg", "a b", "", "-"):
            self.says(f"mark {word}", "no line", f"to {word}", "no line")

    def test_another_desk_has_its_own_marks(self):
        other = Desk(NESTED, [5], 50)
        self.says("go 3", where(3), "mark x", "marked")
        self.assertEqual(other.say("to x"), "no line")
        self.assertEqual(other.say("where"), where(0))


class AskTest(Told):
    def test_worth(self):
        self.from_each("worth a", ["0"] * 4 + ["1"] * 4 + ["2"] * 2)
        self.from_each("worth b", ["0"] + ["5"] * 9)
        self.from_each("worth 10006", ["10006"] * 10)
        self.from_each("worth add b mul a 3", ["0", "5", "5", "5", "8", "8", "8", "8", "11", "11"])
        self.from_each("worth sub 0 less a 1", ["10006"] * 4 + ["0"] * 6)
        self.from_each("worth cell 2", ["0"] * 10)

    def test_until(self):
        self.from_each("until a", [where(4)] * 4 + [where(moment) for moment in range(4, 10)])
        self.from_each("until less 1 a", [where(8)] * 8 + [where(8), where(9)])
        self.from_each("until 1", [where(moment) for moment in range(10)])
        self.from_each("until less a 2", [where(moment) for moment in range(8)] + ["never"] * 2)
        self.from_each("until 0", ["never"] * 10)
        self.from_each("until cell a", ["never"] * 10)

    def test_never_changes_nothing(self):
        self.says("go 3", where(3), "until 0", "never", "where", where(3), "until less 2 a", "never", "where", where(3))

    def test_last(self):
        self.from_each("last a", ["never"] * 4 + ["4"] * 4 + ["8"] * 2)
        self.from_each("last b", ["never"] + ["1"] * 9)
        for thing in ("c", "d", "e", "f", "0", "1", "2", "3"):
            self.from_each(f"last {thing}", ["never"] * 10)

    def test_last_of_cells(self):
        program = tuple([("put", num(number), num(9)) for number in range(4)])
        self.desk = Desk(program, [], 50)
        self.says("last 0", "never", "go 2", "at 2 row 2", "last 0", "1", "last 1", "2", "last 2", "never")
        self.says("go 2", "at 4 row 4", "last 0", "1", "last 1", "2", "last 2", "3", "last 3", "4", "last 4", "no thing")

    def test_why(self):
        self.from_each("why a", ["by"] * 4 + ["by 4"] * 4 + ["by 4 8"] * 2)
        self.from_each("why add b a", ["by"] + ["by 1"] * 3 + ["by 1 4"] * 4 + ["by 1 4 8"] * 2)
        self.from_each("why 7", ["by"] * 10)
        self.from_each("why cell b", ["by"] + ["by 1"] * 9)

    def test_as_the_tape_tells(self):
        tape = Tape(NESTED, [5], 1, 50)
        for moment in range(10):
            self.says(f"to {moment}", where(moment))
            for text in ("a", "b", "cell a", "add a b", "less a 2", "mul b b", "sub a cell 3", "0"):
                term = read_sum(text)
                self.says(f"worth {text}", str(sum_at(tape, moment, term)))
                self.says(f"why {text}", " ".join(["by"] + [str(number) for number in reasons(tape, moment, term)]))
                found = next_so(tape, moment, term)
                self.says(f"until {text}", "never" if found is None else where(found), f"to {moment}", where(moment))
            for thing in THINGS:
                told = last_change(tape, moment, thing)
                self.says(f"last {thing}", "never" if told is None else str(told))

    def test_what_is_asked_is_copied(self):
        asked = [5]
        self.desk = Desk(NESTED, asked, 50)
        asked[0] = 6
        self.says("go 1", where(1), "worth b", "5")
        self.assertEqual(asked, [6])


class RefusedTest(Told):
    def test_no_moment(self):
        self.says("to 10", "no moment", "where", where(0), "to 99999", "no moment", "to 50", "no moment", "to 51", "no moment")
        self.says("go 4", where(4), "to 10", "no moment", "to 00010", "no moment", "where", where(4))
        self.desk = Desk((), [], 50)
        self.says("to 0", "at 0 row 0", "to 1", "no moment")

    def test_no_thing(self):
        for line in NO_THING_LINES:
            for moment in (0, 4, 9):
                self.says(f"to {moment}", where(moment), line, "no thing", "where", where(moment))

    def test_no_line(self):
        for line in NO_LINES:
            for moment in (0, 4, 9):
                self.says(f"to {moment}", where(moment), line, "no line", "where", where(moment))

    def test_a_sum_of_more_than_fifteen_parts_is_no_line(self):
        self.says("worth " + "add 1 " * 7 + "1", "8", "why " + "cell " * 14 + "a", "by")
        for word in ("worth", "until", "why"):
            self.says(f"{word} " + "cell " * 15 + "a", "no line", f"{word} " + "add 1 " * 8 + "1", "no line")
            self.says(f"{word} " + "1" * 5000, "no line", f"{word} " + "cell " * 5000 + "1", "no line")
        self.says("to " + "1" * 5000, "no line", "go " + "0" * 5000, "no line", "last " + "1" * 5000, "no thing")

    def test_questions_and_refused_lines_change_nothing(self):
        self.says("go 2", where(2), "mark x", "marked", "go 3", where(5))
        before = [self.desk.say(line) for line in QUESTIONS]
        for line in QUESTIONS + NO_LINES + NO_THING_LINES + ("to 10", "until 0", "to 77777"):
            self.desk.say(line)
            self.assertEqual([self.desk.say(question) for question in QUESTIONS], before, line)
        self.says("where", where(5), "to x", where(2))


if __name__ == "__main__":
    unittest.main()
