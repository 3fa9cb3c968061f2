"""What differs between moments, and what a step did, so that it can be led back."""

from backtape.programs import CELL_COUNT, LETTERS
from backtape.steps import ASKED, CALLS, CELLS, NAMES, ROW, SAID, with_thing, worth_in

# Which of the two states a change is led to.
AHEAD = 0
BEHIND = 1


def differences(one, other):
    """The things that have other worths in two states, each with both worths."""
    told = []
    for thing in list(LETTERS) + list(range(CELL_COUNT)):
        worth = worth_in(one, thing)
        changed = worth_in(other, thing)
        if worth != changed:
            told.append((thing, worth, changed))
    return told


def differing(tape, one, other):
    """The things that have other worths at two moments, each with both worths."""
    return differences(tape.at(one), tape.at(other))


def first_other(tape, moment):
    """The first moment at which all names and cells are as at this one."""
    wanted = tape.at(moment)
    return tape.first_from(0, lambda state: state[NAMES] == wanted[NAMES] and state[CELLS] == wanted[CELLS])


def change_at(tape, moment):
    """What the step to this moment did."""
    ahead = tape.at(moment - 1)
    behind = tape.at(moment)
    return (
        (ahead[ROW], behind[ROW]),
        tuple(differences(ahead, behind)),
        (ahead[CALLS], behind[CALLS]),
        (ahead[ASKED], behind[ASKED]),
        (ahead[SAID], behind[SAID]),
    )


def led(state, change, side):
    """The state that a change leads to on this side."""
    for difference in change[1]:
        state = with_thing(state, difference[0], difference[1 + side])
    return (change[0][side], state[NAMES], state[CELLS], change[2][side], change[3][side], change[4][side])


def led_back(state, change):
    """The state ahead of a change, of that behind it."""
    return led(state, change, AHEAD)


def led_on(state, change):
    """The state behind a change, of that ahead of it."""
    return led(state, change, BEHIND)
