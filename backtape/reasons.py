"""What each step writes and reads, and of which steps a worth comes."""

from backtape.programs import CELL_COUNT
from backtape.steps import ASKED, CALLS, CELLS, NAMES, ROW, SAID, begun, cell_by, check_thing, laid_out, worth_of


def written_by(row, state):
    """The thing that the step of this row writes in this state, or None."""
    word = row[0]
    if word == "set" or word == "ask":
        return row[1]
    return cell_by(row[1], state) if word == "put" else None


def read_by(term, state):
    """The things that a sum reads in this state, each with True."""
    things = {}
    worths = []
    for part in reversed(laid_out(term)):
        if part[0] == "name":
            things[part[1]] = True
        elif part[0] == "cell":
            # The worth of the sum within a cell is always the last one.
            things[worths[-1] % CELL_COUNT] = True
        worths.append(worth_of(part, worths, state))
    return things


def read_in(row, state):
    """The things that a step of this row reads in this state for what it writes, each with True."""
    things = {}
    if row[0] == "set" or row[0] == "put":
        things.update(read_by(row[2], state))
    if row[0] == "put":
        things.update(read_by(row[1], state))
    return things


def written_next(tape, state):
    """The thing that the next step of a tape writes, or None."""
    return written_by(tape.program[state[ROW]], state)


def check_step(tape, moment):
    """Refuses a moment to which no step leads."""
    tape.check(moment)
    tape.check(moment - 1)


def thing_written(tape, moment):
    """The thing that the step to this moment writes, or None."""
    check_step(tape, moment)
    return written_next(tape, tape.at(moment - 1))


def writer_of(tape, moment, thing):
    """The last moment up to this one to which a step wrote the thing, or None."""
    check_thing(thing)
    tape.check(moment)
    if moment == 0:
        return None
    ahead = tape.last_to(moment - 1, lambda state: written_next(tape, state) == thing)
    return None if ahead is None else ahead + 1


def judged(tape, moment, term):
    """The moments up to this one to which steps wrote, each with whether the sum's worth here comes of it."""
    steps = tape.steps_to(moment, lambda row, state: (written_by(row, state), read_in(row, state)))
    wanted = read_by(term, tape.at(moment))
    told = []
    # From the last step to the first: each thing is wanted up to where it was last written ahead of what reads it.
    for number in range(moment, 0, -1):
        step = steps[number - 1]
        is_reason = step[0] in wanted
        if is_reason:
            wanted.pop(step[0])
            wanted.update(step[1])
        if step[0] is not None:
            told.append((number, is_reason))
    return told[::-1]


def reasons(tape, moment, term):
    """The moments to which steps wrote what the sum's worth at this one comes of."""
    return [number for number, is_reason in judged(tape, moment, term) if is_reason]


def needless(tape, moment, term):
    """The moments up to this one to which steps wrote something of which the sum's worth does not come."""
    return [number for number, is_reason in judged(tape, moment, term) if not is_reason]


def remade(tape, moments):
    """The worths of names and cells, if of all steps just those to these moments are done."""
    for moment in moments:
        check_step(tape, moment)
    # What was said is left out: no step reads it, and it may grow with each one.
    heads = tape.steps_to(max(moments, default=0), lambda row, state: state[:SAID])
    state = begun()
    for moment in sorted(set(moments)):
        head = heads[moment - 1]
        # The step that was done there, but by what names and cells are by now.
        state = tape.behind((head[ROW], state[NAMES], state[CELLS], head[CALLS], head[ASKED], ()))
    return (state[NAMES], state[CELLS])
