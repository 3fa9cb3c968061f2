"""States, and the steps from one to the next."""

from backtape.errors import NoThing
from backtape.programs import CELL_COUNT, LETTERS, WORTH_COUNT, inner_sums, is_cell, is_name

# Where each part stands in a state.
ROW = 0
NAMES = 1
CELLS = 2
CALLS = 3
ASKED = 4
SAID = 5

MOST_CALLS = 6


def begun():
    """The state ahead of all steps."""
    return (0, (0,) * len(LETTERS), (0,) * CELL_COUNT, (), 0, ())


def check_thing(thing):
    """Refuses what is neither a name nor a cell's number."""
    if not is_name(thing) and not is_cell(thing):
        raise NoThing(f"no name and no cell: {thing!r}")


def worth_in(state, thing):
    """The worth of a name, or of a cell by its number, in a state."""
    if is_name(thing):
        return state[NAMES][LETTERS.index(thing)]
    check_thing(thing)
    return state[CELLS][thing]


def laid_out(term):
    """All parts of a sum, each ahead of those in it, the other one's ahead of the one's."""
    parts = []
    waiting = [term]
    while len(waiting) > 0:
        part = waiting.pop()
        parts.append(part)
        waiting.extend(inner_sums(part))
    return parts


def of_two(word, one, other):
    """What two worths come to under a sum's first word."""
    if word == "less":
        return 1 if one < other else 0
    if word == "add":
        return (one + other) % WORTH_COUNT
    if word == "sub":
        return (one - other) % WORTH_COUNT
    return (one * other) % WORTH_COUNT


def worth_of(part, worths, state):
    """A part's worth; those of the sums right within it are taken off the end of worths."""
    word = part[0]
    if word == "num":
        return part[1]
    if word == "name":
        return worth_in(state, part[1])
    last = worths.pop()
    if word == "cell":
        return state[CELLS][last % CELL_COUNT]
    return of_two(word, worths.pop(), last)


def reckoned(term, state):
    """A sum's worth in a state."""
    # Without recursion, since a sum of more than 15 parts may be of any depth.
    worths = []
    for part in reversed(laid_out(term)):
        worths.append(worth_of(part, worths, state))
    return worths[0]


def cell_by(term, state):
    """The number of the cell that a sum's worth stands for in a state."""
    return reckoned(term, state) % CELL_COUNT


def is_over(program, state):
    """Whether no step is to come."""
    if state[ROW] >= len(program):
        return True
    word = program[state[ROW]][0]
    if word == "back":
        return len(state[CALLS]) == 0
    if word == "call":
        return len(state[CALLS]) >= MOST_CALLS
    return word == "stop"


def place_behind(row, state):
    """The place that is next behind the step of this row."""
    word = row[0]
    if word == "jump" or word == "call":
        return row[1]
    if word == "back":
        return state[CALLS][-1]
    if word == "unless" and reckoned(row[1], state) == 0:
        return row[2]
    return state[ROW] + 1


def with_worth(worths, number, worth):
    """The worths, but that the one of this number is another."""
    return worths[:number] + (worth,) + worths[number + 1:]


def with_name(state, name, worth):
    """The state's worths of names, but that this name has another."""
    return with_worth(state[NAMES], LETTERS.index(name), worth)


def with_thing(state, thing, worth):
    """The state, but that this thing has another worth."""
    if is_name(thing):
        return state[:NAMES] + (with_name(state, thing, worth),) + state[NAMES + 1:]
    return state[:CELLS] + (with_worth(state[CELLS], thing, worth),) + state[CELLS + 1:]


def brought(asked, number):
    """What the ask of this number brings, counted from 0."""
    return asked[number] if number < len(asked) else 0


def stepped(program, asked, state):
    """The state behind the next step."""
    row = program[state[ROW]]
    word = row[0]
    behind = list(state)
    behind[ROW] = place_behind(row, state)
    # Each worth is reckoned in the state ahead, which the step does not change.
    if word == "set":
        behind[NAMES] = with_name(state, row[1], reckoned(row[2], state))
    elif word == "put":
        behind[CELLS] = with_worth(state[CELLS], cell_by(row[1], state), reckoned(row[2], state))
    elif word == "ask":
        behind[NAMES] = with_name(state, row[1], brought(asked, state[ASKED]))
        behind[ASKED] = state[ASKED] + 1
    elif word == "say":
        behind[SAID] = state[SAID] + (reckoned(row[1], state),)
    elif word == "call":
        behind[CALLS] = state[CALLS] + (state[ROW] + 1,)
    elif word == "back":
        behind[CALLS] = state[CALLS][:-1]
    return tuple(behind)


def states(program, asked, many):
    """The states from begun() on, so many steps, or till no step is to come."""
    told = [begun()]
    while len(told) <= many and not is_over(program, told[-1]):
        told.append(stepped(program, asked, told[-1]))
    return told
