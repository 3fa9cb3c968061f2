"""Promise 9.1, and 0.3 where it speaks of it."""

import itertools
import unittest

from backtape.errors import NoText
from backtape.programs import is_program, is_sum
from backtape.texts import read, read_sum, written, written_sum
from helper import LETTERS, STOP, cell, kinds, name, num

SUMS = (
    (num(0), "0"), (num(7), "7"), (num(10), "10"), (num(10006), "10006"), (name("a"), "a"), (name("f"), "f"),
    (cell(num(3)), "cell 3"), (cell(num(4)), "cell 4"), (cell(name("b")), "cell b"), (cell(cell(num(0))), "cell cell 0"),
    (("add", name("a"), cell(num(3))), "add a cell 3"), (("sub", num(1), num(2)), "sub 1 2"),
    (("mul", cell(name("a")), name("b")), "mul cell a b"), (("less", name("a"), num(10)), "less a 10"),
    (("add", ("sub", num(1), num(2)), ("mul", num(3), num(4))), "add sub 1 2 mul 3 4"),
    (("less", num(1), ("add", cell(("mul", num(2), name("c"))), num(5))), "less 1 add cell mul 2 c 5"),
)
ROWS = (
    (("set", "a", num(1)), "set a 1"), (("set", "f", ("add", name("f"), num(1))), "set f add f 1"),
    (("put", num(3), name("a")), "put 3 a"), (("put", cell(num(1)), ("sub", num(1), num(2))), "put cell 1 sub 1 2"),
    (("put", ("add", num(1), num(2)), cell(num(0))), "put add 1 2 cell 0"),
    (("ask", "c"), "ask c"), (("say", num(10006)), "say 10006"), (("say", ("less", num(1), num(2))), "say less 1 2"),
    (("jump", 0), "jump 0"), (("jump", 1), "jump 1"), (("unless", name("d"), 0), "unless d 0"),
    (("unless", num(0), 1), "unless 0 1"), (("unless", cell(num(1)), 0), "unless cell 1 0"),
    (("unless", ("less", name("a"), num(10)), 1), "unless less a 10 1"),
    (("call", 0), "call 0"), (("call", 1), "call 1"), (("back",), "back"), (STOP, "stop"),
)


def sum_of_parts(many):
    """A sum of so many parts, an odd number."""
    term = num(1)
    for _ in range(many // 2):
        term = ("add", term, name("a"))
    return term


class Told(unittest.TestCase):
    def same(self, told, wanted):
        self.assertEqual(kinds(told), kinds(wanted))

    def no_sums(self, texts):
        for text in texts:
            with self.assertRaises(NoText, msg=repr(text)):
                read_sum(text)

    def no_programs(self, texts):
        for text in texts:
            with self.assertRaises(NoText, msg=repr(text)):
                read(text)


class SumTest(Told):
    def test_each_sort_is_written_and_read_back(self):
        for term, text in SUMS:
            self.same(written_sum(term), text)
            self.same(read_sum(text), term)

    def test_each_worth_and_each_name(self):
        for worth in list(range(0, 300)) + [999, 1000, 9999, 10000, 10005, 10006]:
            self.same(read_sum(str(worth)), num(worth))
            self.same(written_sum(num(worth)), str(worth))
        for letter in LETTERS:
            self.same(read_sum(letter), name(letter))
            self.same(written_sum(name(letter)), letter)

    def test_just_the_writings_of_sums_are_read(self):
        """All texts of up to four of these words are held against the writings of all sums of up to four parts."""
        leaves = [num(0), num(12), name("a")]
        sums = {1: leaves}
        for many in (2, 3, 4):
            sums[many] = [cell(term) for term in sums[many - 1]]
            for one in range(1, many - 1):
                for word in ("add", "less"):
                    sums[many] += [(word, *both) for both in itertools.product(sums[one], sums[many - 1 - one])]
        writings = {written_sum(term): term for many in sums for term in sums[many]}
        self.assertEqual(len(writings), sum([len(terms) for terms in sums.values()]))
        words = ("0", "12", "a", "cell", "add", "less", "name", "")
        read_back = {}
        for many in (1, 2, 3, 4):
            for drawn in itertools.product(words, repeat=many):
                try:
                    read_back[" ".join(drawn)] = read_sum(" ".join(drawn))
                except NoText:
                    pass
        self.assertEqual(read_back, writings)

    def test_up_to_fifteen_parts_are_read(self):
        for many in (13, 15):
            term = sum_of_parts(many)
            self.same(read_sum(written_sum(term)), term)
        deep = name("b")
        for _ in range(14):
            deep = cell(deep)
        self.same(read_sum("cell " * 14 + "b"), deep)
        self.no_sums([written_sum(sum_of_parts(17)), "cell " * 15 + "b", written_sum(cell(sum_of_parts(15)))])

    def test_sums_of_more_parts_are_written(self):
        for many in (17, 101, 6001):
            text = written_sum(sum_of_parts(many))
            self.same(text, "add " * (many // 2) + "1" + " a" * (many // 2))
        deep = name("b")
        for _ in range(5000):
            deep = cell(deep)
        self.same(written_sum(deep), "cell " * 5000 + "b")
        self.no_sums([written_sum(deep)])

    def test_words_left_out_and_more_words(self):
        self.no_sums(["cell", "add", "add 1", "add a", "add add 1 2", "less", "add cell 1", "mul sub 1 2", "cell cell"])
        self.no_sums(["1 2", "a b", "a 1", "1 a", "cell 1 2", "add 1 2 3", "add 1 2 add", "a cell", "1 cell 2", "cell a b"])

    def test_no_words_of_sums(self):
        self.no_sums(["g", "A", "aa", "ab", "num", "name", "num 1", "name a", "Cell 1", "CELL 1", "cells 1", "div 1 2"])
        self.no_sums(["add,1,2", "(add 1 2)", "+ 1 2", "cell g", "add a g", "set", "stop", "~", "!", "None", "less 1 -"])

    def test_blanks_more_or_at_an_end(self):
        self.no_sums([" ", "  ", " 1", "1 ", " a", "a ", "cell  1", " cell 1", "cell 1 ", "add  1 2", "add 1  2",
                      "add 1 2 ", " add 1 2", "  add 1 2", "cell ", "add 1 "])

    def test_line_feeds(self):
        self.no_sums(["\n", "1\n", "\n1", "a\n", "cell\n1", "cell 1\n", "add 1\n2", "add 1 2\n", "1\n2"])

    def test_an_empty_text(self):
        self.no_sums([""])

    def test_figures_with_a_nought_ahead(self):
        self.no_sums(["00", "01", "000", "007", "010006", "cell 00", "cell 03", "add 1 02", "00001", "000001"])

    def test_numbers_that_are_no_worths(self):
        self.no_sums(["10007", "10008", "99999", "100000", "-1", "-0", "+1", "1.0", "1_0", "0x1", "1e3", "cell -1"])
        self.no_sums(["cell 10007", "add 1 10007", "add 1 -1", "9" * 20, "1" * 5000, "0" * 5000])


class ProgramTest(Told):
    def test_each_sort_of_row_is_written_and_read_back(self):
        for row, text in ROWS:
            self.same(written((row,)), text + "\n")
            self.same(read(text + "\n"), (row,))

    def test_several_rows(self):
        program = tuple([row for row, text in ROWS])
        text = "".join([text + "\n" for row, text in ROWS])
        self.assertTrue(is_program(program))
        self.same(written(program), text)
        self.same(read(text), program)

    def test_the_words_of_the_document(self):
        program = (("unless", ("less", name("a"), num(10)), 7),) + (STOP,) * 6
        self.same(written(program), "unless less a 10 7\n" + "stop\n" * 6)
        self.same(read("unless less a 10 7\n" + "stop\n" * 6), program)

    def test_each_sum_in_each_row(self):
        for term, text in SUMS:
            program = (("set", "a", term), ("put", term, term), ("say", term), ("unless", term, 2))
            wanted = f"set a {text}\nput {text} {text}\nsay {text}\nunless {text} 2\n"
            self.same(written(program), wanted)
            self.same(read(wanted), program)

    def test_an_empty_text_is_the_writing_of_no_rows(self):
        self.same(written(()), "")
        self.same(read(""), ())

    def test_up_to_twenty_rows(self):
        for many in (19, 20):
            self.same(read("back\n" * many), (("back",),) * many)
            self.same(read("jump 10\n" * many), (("jump", 10),) * many)
        self.no_programs(["back\n" * 21, "back\n" * 200])

    def test_line_feeds_missing_or_more(self):
        self.no_programs(["stop", "stop\nback", "stopback\n", "stop back\n", "\n", "\n\n", "stop\n\n", "\nstop\n",
                          "stop\n\nback\n", "set a\n1\n", "set\na 1\n", "say add 1\n2\n", "stop \n", "say 1\n\n"])

    def test_words_left_out(self):
        self.no_programs(["set\n", "set a\n", "set 1\n", "put\n", "put 1\n", "put add 1 2\n", "put cell 1\n", "ask\n",
                          "say\n", "say add 1\n", "jump\n", "unless\n", "unless 1\n", "unless a\n", "call\n",
                          "unless less a 1\n", "a 1\n", "set a add 1\n", "unless cell 0\n"])

    def test_more_words(self):
        self.no_programs(["set a 1 2\n", "put 1 2 3\n", "ask a b\n", "ask a 1\n", "say 1 2\n", "jump 0 0\n", "back 0\n",
                          "unless 1 0 0\n", "call 0 0\n", "back back\n", "stop 0\n", "stop stop\n", "set a b 1\n"])

    def test_blanks_more_or_at_an_end(self):
        for text in ("set a 1", "put 1 2", "ask a", "say 1", "jump 0", "unless 1 0", "call 0", "back", "stop"):
            self.same(written(read(text + "\n")), text + "\n")
            self.no_programs([" " + text + "\n", text + " \n", text + "\n ", text + "\n \n", " \n" + text + "\n"])
            if " " in text:
                self.no_programs([text.replace(" ", "  ", 1) + "\n", text.replace(" ", "") + "\n"])
        self.no_programs([" ", " \n"])

    def test_figures_with_a_nought_ahead(self):
        self.no_programs(["jump 00\n", "jump 01\n", "call 00\n", "unless 1 00\n", "unless 01 0\n", "say 00\n",
                          "set a 07\n", "put 00 1\n", "put 1 00\n", "jump 000000\n"])

    def test_numbers_that_are_no_worths(self):
        self.no_programs(["say 10007\n", "set a -1\n", "put 10007 1\n", "put 1 99999\n", "unless 10007 0\n", "say 1.0\n",
                          "say " + "1" * 5000 + "\n"])

    def test_places_that_are_none(self):
        self.no_programs(["jump 2\n", "call 2\n", "unless 1 2\n", "jump -1\n", "jump a\n", "jump 20\n", "call cell 0\n",
                          "jump 10007\n", "jump " + "9" * 5000 + "\n", "unless 1 a\n", "unless 1 -1\n", "jump +1\n",
                          "jump 3\nstop\n"])
        self.same(read("jump 2\nstop\n"), (("jump", 2), STOP))

    def test_names_that_are_none(self):
        self.no_programs(["set g 1\n", "set 0 1\n", "ask g\n", "ask 0\n", "set A 1\n", "set aa 1\n", "ask cell 0\n",
                          "say g\n", "set  1\n", "ask \n"])

    def test_no_words_of_rows(self):
        self.no_programs(["Stop\n", "STOP\n", "halt\n", "a\n", "1\n", "cell 1\n", "num 1\n", "say num 1\n", "sets a 1\n",
                          "say name a\n", "~\n", "set a 1;\n"])

    def test_a_wrong_row_among_good_ones(self):
        for wrong in ("", " ", "set a", "jump 9", "say 010", "stop "):
            for texts in ((wrong, "stop", "back"), ("stop", wrong, "back"), ("stop", "back", wrong)):
                self.no_programs(["".join([text + "\n" for text in texts])])

    def test_sums_of_more_than_fifteen_parts(self):
        for many, good in ((15, True), (17, False)):
            term = sum_of_parts(many)
            for row in (("set", "a", term), ("put", term, num(1)), ("put", num(1), term), ("say", term),
                        ("unless", term, 0)):
                text = written((row,))
                self.assertEqual(is_program((row,)), good)
                if good:
                    self.same(read(text), (row,))
                else:
                    self.no_programs([text])

    def test_more_rows_and_parts_are_written(self):
        program = (("say", sum_of_parts(101)),) * 30 + (("jump", 40),)
        row = "say " + "add " * 50 + "1" + " a" * 50 + "\n"
        self.same(written(program), row * 30 + "jump 40\n")

    def test_a_sum_is_no_program_and_a_program_no_sum(self):
        for term, text in SUMS:
            self.no_programs([text, text + "\n"])
        for row, text in ROWS:
            self.no_sums([text, text + "\n"])

    def test_all_that_is_read_is_a_sum_or_a_program(self):
        for term, text in SUMS:
            self.assertIs(is_sum(read_sum(text)), True)
        for row, text in ROWS:
            self.assertIs(is_program(read(text + "\n")), True)


if __name__ == "__main__":
    unittest.main()
