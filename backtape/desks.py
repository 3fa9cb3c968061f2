"""Desks: a run is looked at by lines, each with a reply."""

from backtape.asking import last_change, next_so, sum_at
from backtape.errors import NoMoment, NoText, NoThing
from backtape.reasons import reasons
from backtape.steps import ROW
from backtape.tapes import Tape
from backtape.texts import is_figures, read_sum
from backtape.walking import back_out, back_over, out, over

SMALL_LETTERS = "abcdefghijklmnopqrstuvwxyz"
MOST_LETTERS = 6


def number_in(word):
    """The number that a word tells."""
    if not is_figures(word):
        raise NoText(f"no number: {word!r}")
    return int(word)


def mark_in(word):
    """The word, if a moment may be kept by it."""
    if not 0 < len(word) <= MOST_LETTERS or not all([sign in SMALL_LETTERS for sign in word]):
        raise NoText(f"no word to mark by: {word!r}")
    return word


def thing_in(word):
    """The thing that a word tells, if it is one; a word that tells none is refused where it is asked about."""
    if word == "" or " " in word:
        raise NoText(f"not one word: {word!r}")
    return int(word) if is_figures(word) and len(word) == 1 else word


def moment_by(tape, word):
    """The moment to which a step of this word leads."""
    now = tape.moment()
    if word == "over":
        return over(tape, now)
    if word == "out":
        return out(tape, now)
    if word == "backover":
        return back_over(tape, now)
    if word == "backout":
        return back_out(tape, now)
    raise NoText(f"no line: {word!r}")


class Desk:
    """A run, the moment of it that is looked at, and those that are kept by words."""

    def __init__(self, program, asked, most):
        self.tape = Tape(program, asked, 1, most)
        self.named = {}

    def say(self, line):
        """The reply to a line."""
        try:
            return self.reply(line)
        except NoMoment:
            return "no moment"
        except NoThing:
            return "no thing"
        except NoText:
            return "no line"

    def reply(self, line):
        """The reply to a line that is not refused."""
        cut = line.partition(" ")
        if cut[1] == "":
            return self.reply_alone(line)
        if cut[0] == "go":
            self.tape.go(number_in(cut[2]))
            return self.where()
        if cut[0] == "back":
            self.tape.back(number_in(cut[2]))
            return self.where()
        if cut[0] == "to":
            return self.look(self.moment_in(cut[2]))
        if cut[0] == "mark":
            self.named[mark_in(cut[2])] = self.tape.moment()
            return "marked"
        if cut[0] == "last":
            moment = last_change(self.tape, self.tape.moment(), thing_in(cut[2]))
            return "never" if moment is None else str(moment)
        return self.reply_of_sum(cut[0], read_sum(cut[2]))

    def reply_alone(self, word):
        """The reply to a line of one word."""
        if word == "where":
            return self.where()
        if word == "end":
            return str(self.tape.end())
        return self.look(moment_by(self.tape, word))

    def reply_of_sum(self, word, term):
        """The reply to a line of this word and a sum."""
        now = self.tape.moment()
        if word == "worth":
            return str(sum_at(self.tape, now, term))
        if word == "why":
            return " ".join(["by"] + [str(moment) for moment in reasons(self.tape, now, term)])
        if word != "until":
            raise NoText(f"no line with a sum: {word!r}")
        moment = next_so(self.tape, now, term)
        return "never" if moment is None else self.look(moment)

    def where(self):
        """The moment that is looked at, and the place that is next there."""
        moment = self.tape.moment()
        row = self.tape.state()[ROW]
        return f"at {moment} row {row}"

    def look(self, moment):
        """Looks at this moment; the reply as of where."""
        self.tape.to(moment)
        return self.where()

    def moment_in(self, word):
        """The moment that is kept by this word, or that of this number."""
        return self.named[word] if word in self.named else number_in(word)
