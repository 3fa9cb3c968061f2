"""Steps over calls and out of them, forth and back."""

from backtape.steps import CALLS


def open_in(state):
    """How many calls are open in a state."""
    return len(state[CALLS])


def depth(tape, moment):
    """How many calls are open at this moment."""
    return open_in(tape.at(moment))


def next_within(tape, moment, bound):
    """The next moment at which at most so many calls are open, or the last one."""
    if not tape.has(moment + 1):
        return moment
    found = tape.first_from(moment + 1, lambda state: open_in(state) <= bound)
    return tape.end() if found is None else found


def last_within(tape, moment, bound):
    """The last moment ahead at which at most so many calls are open, or 0."""
    if moment == 0:
        return 0
    found = tape.last_to(moment - 1, lambda state: open_in(state) <= bound)
    return 0 if found is None else found


def over(tape, moment):
    """The next moment at which no more calls are open than at this one, or the last one."""
    return next_within(tape, moment, depth(tape, moment))


def out(tape, moment):
    """The next moment at which fewer calls are open than at this one, or the last one."""
    return next_within(tape, moment, depth(tape, moment) - 1)


def back_over(tape, moment):
    """The last moment ahead at which no more calls are open than at this one, or 0."""
    return last_within(tape, moment, depth(tape, moment))


def back_out(tape, moment):
    """The last moment ahead at which fewer calls are open than at this one, or 0."""
    return last_within(tape, moment, depth(tape, moment) - 1)


def calls(tape):
    """The moments behind which a step is a call, each with its end, or None."""
    depths = tape.readings(open_in)
    ends = {}
    waiting = []
    # A call alone makes the depth more, and a back alone makes it less: it ends the call that began last.
    for moment in range(len(depths) - 1):
        if depths[moment + 1] > depths[moment]:
            ends[moment] = None
            waiting.append(moment)
        elif depths[moment + 1] < depths[moment]:
            ends[waiting.pop()] = moment + 1
    return list(ends.items())


def open_calls(tape, moment):
    """The moments of the calls that are open at this one."""
    begun_at = []
    inner = moment
    # Fewer calls were last open right at the call that is open innermost.
    while depth(tape, inner) > 0:
        inner = back_out(tape, inner)
        begun_at.append(inner)
    return list(reversed(begun_at))
