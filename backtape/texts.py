"""Sums and programs as texts, written and read."""

from backtape.errors import NoText
from backtape.programs import INNER_COUNTS, ROW_FORMS, inner_sums, is_program, is_sum, is_whole

FIGURES = "0123456789"
MOST_FIGURES = 5


def written_word(part):
    """The word that stands for a part of a sum ahead of those in it."""
    if part[0] == "num":
        return str(part[1])
    return part[1] if part[0] == "name" else part[0]


def written_sum(term):
    """The writing of a sum."""
    words = []
    waiting = [term]
    # Without recursion, since a sum of more than 15 parts may be of any depth.
    while len(waiting) > 0:
        part = waiting.pop()
        words.append(written_word(part))
        waiting.extend(inner_sums(part)[::-1])
    return " ".join(words)


def written_row(row):
    """The writing of a row, without its line feed."""
    words = [row[0]]
    for part, form in zip(row[1:], ROW_FORMS[row[0]]):
        words.append(written_sum(part) if form == "sum" else str(part))
    return " ".join(words)


def written(program):
    """The writing of a program."""
    return "".join([written_row(row) + "\n" for row in program])


def is_figures(word):
    """Whether a text is one to five figures, which is as many as any number in a text has."""
    return 0 < len(word) <= MOST_FIGURES and all([sign in FIGURES for sign in word])


def number_or_word(word):
    """The number that figures tell; any other word as it is."""
    return int(word) if is_figures(word) else word


def leaf_of(word):
    """The number or the name that a word may be."""
    part = number_or_word(word)
    return ("num", part) if is_whole(part) else ("name", part)


def sum_of(words):
    """What the words may write, if they write a sum; whether it is one is still to be asked."""
    parts = []
    # From the last word to the first, so that the sums within one are there when its first word comes.
    for word in reversed(words):
        many = INNER_COUNTS.get(word, 0)
        if many > len(parts):
            raise NoText(f"too few words behind {word!r}")
        inner = [parts.pop() for number in range(many)]
        parts.append((word,) + tuple(inner) if many > 0 else leaf_of(word))
    return parts[-1]


def sum_end(words, start):
    """Behind which of the words the sum ends that begins with the one of this number."""
    missing = 1
    while missing > 0 and start < len(words):
        missing += INNER_COUNTS.get(words[start], 0) - 1
        start += 1
    return start


def row_of(line):
    """What a line may write, if it writes a row; whether it is one is still to be asked."""
    words = line.split(" ")
    row = [words[0]]
    behind = 1
    for form in ROW_FORMS.get(words[0], ()):
        start = behind
        if start == len(words):
            raise NoText(f"too few words: {line!r}")
        behind = sum_end(words, start) if form == "sum" else start + 1
        row.append(sum_of(words[start:behind]) if form == "sum" else number_or_word(words[start]))
    return tuple(row)


def read_sum(text):
    """The sum of which the text is the writing."""
    term = sum_of(text.split(" "))
    # Written again, so that there is no need to look out for each way in which a text may be amiss.
    if not is_sum(term) or written_sum(term) != text:
        raise NoText(f"the writing of no sum: {text!r}")
    return term


def read(text):
    """The program of which the text is the writing."""
    program = tuple([row_of(line) for line in text.split("\n")[:-1]])
    if not is_program(program) or written(program) != text:
        raise NoText(f"the writing of no program: {text!r}")
    return program
