"""Promise 0.2 (g) over drawn programs, texts that differ a little from their writings, and drawn lines at desks."""

import unittest

from backtape.asking import last_change, next_so, sum_at
from backtape.desks import Desk
from backtape.errors import NoMoment, NoText, NoThing
from backtape.programs import is_program, is_sum
from backtape.reasons import reasons
from backtape.tapes import Tape
from backtape.texts import read, read_sum, written, written_sum
from backtape.walking import back_out, back_over, out, over
from helper import LETTERS, Draw, drawn_runs, drawn_sum, kinds

MANY = 400
RUNS = drawn_runs(MANY)
SIGNS = " \n0123456789abcdefglosut-~A"
STEPS = {"over": over, "out": out, "backover": back_over, "backout": back_out}


def spoilt(draw, text):
    """The text with a sign more, less or other, or with a word more, less or twice."""
    place = draw.below(len(text) + 1)
    way = draw.below(5)
    if way == 0:
        return text[:place] + text[place + 1:]
    if way == 1:
        return text[:place] + draw.of(SIGNS) + text[place:]
    if way == 2:
        return text[:place] + draw.of(SIGNS) + text[place + 1:]
    words = text.split(" ")
    number = draw.below(len(words))
    if way == 3:
        return " ".join(words[:number] + words[number + 1:])
    return " ".join(words[:number] + [draw.of(words)] + words[number:])


class DrawnTextsTest(unittest.TestCase):
    def test_g_programs_read_back_as_what_they_write(self):
        writings = {}
        for program, asked, most in RUNS:
            text = written(program)
            self.assertEqual(kinds(read(text)), kinds(program))
            # No two programs have one writing.
            self.assertEqual(writings.setdefault(text, program), program)

    def test_g_sums_read_back_as_what_they_write(self):
        draw = Draw(30000)
        for number in range(1000):
            term = drawn_sum(draw, 3)
            self.assertEqual(kinds(read_sum(written_sum(term))), kinds(term))

    def test_g_and_as_nothing_else(self):
        """What is read of a spoilt text, if anything, is what has that very writing."""
        found = {True: 0, False: 0}
        for seed, (program, asked, most) in enumerate(RUNS):
            draw = Draw(40000 + seed)
            for number in range(20):
                text = spoilt(draw, written(program))
                found[self.reads_its_writing(read, written, is_program, text)] += 1
                text = spoilt(draw, written_sum(drawn_sum(draw, 3)))
                found[self.reads_its_writing(read_sum, written_sum, is_sum, text)] += 1
        for many in found.values():
            self.assertGreaterEqual(many, MANY)

    def reads_its_writing(self, reader, writer, test, text):
        try:
            thing = reader(text)
        except NoText:
            return False
        self.assertIs(test(thing), True, repr(text))
        self.assertEqual(writer(thing), text)
        return True


class Clerk:
    """What a desk's replies are to be, by a tape and the words of the document."""

    def __init__(self, program, asked, most):
        self.tape = Tape(program, asked, 3, most)
        self.kept = {}

    def reply(self, word, rest):
        now = self.tape.moment()
        if word == "end":
            return str(self.tape.end())
        if word == "mark":
            self.kept[rest] = now
            return "marked"
        if word == "worth":
            return str(sum_at(self.tape, now, rest))
        if word == "why":
            return " ".join(["by"] + [str(moment) for moment in reasons(self.tape, now, rest)])
        if word == "last":
            return self.last(rest)
        try:
            found = self.look(word, rest, now)
        except NoMoment:
            return "no moment"
        return found or f"at {self.tape.moment()} row {self.tape.state()[0]}"

    def last(self, thing):
        try:
            moment = last_change(self.tape, self.tape.moment(), thing)
        except NoThing:
            return "no thing"
        return "never" if moment is None else str(moment)

    def look(self, word, rest, now):
        """Another look; a reply only where it is not that of where."""
        if word == "go":
            self.tape.go(rest)
        elif word == "back":
            self.tape.back(rest)
        elif word == "to" and isinstance(rest, str):
            if rest not in self.kept:
                return "no line"
            self.tape.to(self.kept[rest])
        elif word == "to":
            self.tape.to(rest)
        elif word == "until":
            moment = next_so(self.tape, now, rest)
            if moment is None:
                return "never"
            self.tape.to(moment)
        elif word in STEPS:
            self.tape.to(STEPS[word](self.tape, now))
        return None


class DrawnDesksTest(unittest.TestCase):
    def drawn_line(self, draw, most):
        """A word and what comes behind it, and the line of both."""
        word = draw.of(("where", "end", "go", "back", "to", "to", "to", "mark", "worth", "until", "last", "why", *STEPS))
        if word in ("go", "back"):
            rest = draw.below(draw.of((3, most + 3)))
        elif word == "to":
            rest = draw.of((draw.below(most + 3), draw.below(most // 2 + 1), draw.of(("where", "a", "x", "to"))))
        elif word == "mark":
            rest = draw.of(("where", "a", "x", "to"))
        elif word == "last":
            rest = draw.of((draw.below(5), draw.of(LETTERS + "g"), draw.of("abc")))
        elif word in ("worth", "until", "why"):
            rest = drawn_sum(draw, 2)
            return word, rest, f"{word} {written_sum(rest)}"
        else:
            return word, None, word
        return word, rest, f"{word} {rest}"

    def test_g_a_desk_tells_what_the_tape_does(self):
        sorts = {}
        for seed, (program, asked, most) in enumerate(RUNS):
            draw = Draw(50000 + seed)
            desk = Desk(program, asked, most)
            clerk = Clerk(program, asked, most)
            lines = []
            for number in range(40):
                word, rest, line = self.drawn_line(draw, most)
                lines.append(line)
                reply = desk.say(line)
                self.assertEqual(kinds(reply), kinds(clerk.reply(word, rest)), (program, asked, most, lines))
                sort = (word, reply if reply in ("no moment", "no thing", "no line", "never", "by") else "told")
                sorts[sort] = sorts.get(sort, 0) + 1
        for sort in (("to", "no moment"), ("to", "no line"), ("to", "told"), ("last", "no thing"), ("last", "never"),
                     ("last", "told"), ("until", "never"), ("until", "told"), ("why", "by"), ("why", "told")):
            self.assertGreaterEqual(sorts.get(sort, 0), MANY // 20, sort)


if __name__ == "__main__":
    unittest.main()
