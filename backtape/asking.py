"""What is asked of a tape: worths, changes, places, what was said."""

from backtape.steps import ROW, SAID, reckoned, worth_in


def sum_at(tape, moment, term):
    """A sum's worth at this moment."""
    return reckoned(term, tape.at(moment))


def worth_at(tape, moment, thing):
    """A thing's worth at this moment."""
    return worth_in(tape.at(moment), thing)


def worths_of(tape, thing):
    """A thing's worth at each moment."""
    return tape.readings(lambda state: worth_in(state, thing))


def changes(tape, thing):
    """The moments at which the thing has another worth than at the one ahead."""
    worths = worths_of(tape, thing)
    return [moment for moment in range(1, len(worths)) if worths[moment] != worths[moment - 1]]


def last_change(tape, moment, thing):
    """The last change of the thing up to this moment, or None."""
    worth = worth_at(tape, moment, thing)
    # The thing got the worth that it has now behind the last moment at which it had another.
    other = tape.last_to(moment, lambda state: worth_in(state, thing) != worth)
    return None if other is None else other + 1


def next_change(tape, moment, thing):
    """The first change of the thing behind this moment, or None."""
    worth = worth_at(tape, moment, thing)
    return tape.first_from(moment, lambda state: worth_in(state, thing) != worth)


def moments_so(tape, term):
    """All moments at which the sum's worth is not 0."""
    worths = tape.readings(lambda state: reckoned(term, state))
    return [moment for moment, worth in enumerate(worths) if worth != 0]


def last_so(tape, moment, term):
    """The last moment up to this one at which the sum's worth is not 0, or None."""
    return tape.last_to(moment, lambda state: reckoned(term, state) != 0)


def next_so(tape, moment, term):
    """The first moment from this one on at which the sum's worth is not 0, or None."""
    return tape.first_from(moment, lambda state: reckoned(term, state) != 0)


def visits(tape, row):
    """All moments at which this place is next."""
    places = tape.readings(lambda state: state[ROW])
    return [moment for moment, place in enumerate(places) if place == row]


def last_visit(tape, moment, row):
    """The last moment up to this one at which this place is next, or None."""
    return tape.last_to(moment, lambda state: state[ROW] == row)


def said_at(tape, moment):
    """All that was said by this moment."""
    return list(tape.at(moment)[SAID])


def when_said(tape, number):
    """The first moment by which more than so many were said, or None."""
    return tape.first_from(0, lambda state: len(state[SAID]) > number)


def spread(tape, thing):
    """How many moments have each worth of the thing, by rising worths."""
    counts = {}
    for worth in worths_of(tape, thing):
        counts[worth] = counts.get(worth, 0) + 1
    return sorted(counts.items())
