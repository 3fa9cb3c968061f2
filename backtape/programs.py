"""What a sum is, and what a program is."""

LETTERS = ("a", "b", "c", "d", "e", "f")
CELL_COUNT = 4
WORTH_COUNT = 10007
MOST_PARTS = 15
MOST_ROWS = 20

# How many sums stand right within a sum, by its first word.
INNER_COUNTS = {"num": 0, "name": 0, "cell": 1, "add": 2, "sub": 2, "mul": 2, "less": 2}

# What stands behind the first word of a row.
ROW_FORMS = {
    "set": ("name", "sum"),
    "put": ("sum", "sum"),
    "ask": ("name",),
    "say": ("sum",),
    "jump": ("place",),
    "unless": ("sum", "place"),
    "call": ("place",),
    "back": (),
    "stop": (),
}


def is_whole(thing):
    """Whether the thing is an int that is no truth."""
    return isinstance(thing, int) and not isinstance(thing, bool)


def is_worth(thing):
    """Whether the thing is a whole number that a name or a cell may have."""
    return is_whole(thing) and 0 <= thing < WORTH_COUNT


def is_name(thing):
    """Whether the thing is one of the six names."""
    return thing in LETTERS


def is_cell(thing):
    """Whether the thing is the number of a cell."""
    return is_whole(thing) and 0 <= thing < CELL_COUNT


def is_place(thing, row_count):
    """Whether the thing is a row's number, or that behind all rows."""
    return is_whole(thing) and 0 <= thing <= row_count


def first_word(thing):
    """The text at the front of a tuple; None of all other things."""
    # A list at the front could not be looked up in a dict, so only a text is told.
    if isinstance(thing, tuple) and len(thing) > 0 and isinstance(thing[0], str):
        return thing[0]
    return None


def inner_sums(part):
    """The sums that stand right within a sum."""
    if INNER_COUNTS[part[0]] == 0:
        return ()
    return part[1:]


def has_sum_form(thing):
    """Whether the thing is a sum, if those that stand in it are."""
    word = first_word(thing)
    if word == "num":
        return len(thing) == 2 and is_worth(thing[1])
    if word == "name":
        return len(thing) == 2 and is_name(thing[1])
    return word in INNER_COUNTS and len(thing) == INNER_COUNTS[word] + 1


def is_sum(thing):
    """Whether the thing is a sum of at most 15 parts."""
    waiting = [thing]
    parts = 0
    # Counted while it is gone through, so that a thing of very many parts is left early.
    while len(waiting) > 0:
        part = waiting.pop()
        parts += 1
        if parts > MOST_PARTS or not has_sum_form(part):
            return False
        waiting.extend(inner_sums(part))
    return True


def fits(thing, form, row_count):
    """Whether the thing is what a row's form asks for in one place."""
    if form == "name":
        return is_name(thing)
    if form == "place":
        return is_place(thing, row_count)
    return is_sum(thing)


def is_row(thing, row_count):
    """Whether the thing is a row of a program of so many rows."""
    forms = ROW_FORMS.get(first_word(thing))
    if forms is None or len(thing) != len(forms) + 1:
        return False
    return all([fits(part, form, row_count) for part, form in zip(thing[1:], forms)])


def is_program(thing):
    """Whether the thing is a program."""
    if not isinstance(thing, tuple) or len(thing) > MOST_ROWS:
        return False
    return all([is_row(row, len(thing)) for row in thing])
