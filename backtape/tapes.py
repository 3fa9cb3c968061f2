"""Tapes: a run of which a few states are kept, and any moment is told from them."""

from backtape.errors import NoMoment
from backtape.programs import is_whole
from backtape.steps import ROW, begun, is_over, stepped

MOST_MARKS = 8


class Tape:
    """The moments of a run, and the one of them that is looked at."""

    def __init__(self, program, asked, every, most):
        self.program = program
        # A copy, so that the run stays the same when the list is changed later.
        self.asked = list(asked)
        # Nothing is refused for its bounds, and a gap of nought would never grow by doubling.
        self.gap = max(every, 1)
        self.most = max(most, 0)
        self.kept = [begun()]
        self.farthest = 0
        self.front = begun()
        self.now = 0

    def at(self, moment):
        """The state at this moment."""
        self.check(moment)
        state = self.kept[moment // self.gap]
        for step in range(moment % self.gap):
            state = self.behind(state)
        return state

    def end(self):
        """The last moment."""
        self.reach(self.most)
        return self.farthest

    def moment(self):
        """The moment that is looked at."""
        return self.now

    def state(self):
        """The state at the moment that is looked at."""
        return self.at(self.now)

    def to(self, moment):
        """Looks at this moment."""
        self.check(moment)
        self.now = moment

    def go(self, many):
        """Looks so many steps on, or at the last moment; how many steps that were."""
        # The last moment is asked about even where it is not reached: the marks are promised so.
        steps = min(max(many, 0), self.end() - self.now)
        self.now += steps
        return steps

    def back(self, many):
        """Looks so many steps back, or at the first moment; how many steps that were."""
        steps = min(max(many, 0), self.now)
        self.now -= steps
        return steps

    def marks(self):
        """The moments that are marked, rising."""
        return [number * self.gap for number in range(len(self.kept))]

    def cost(self, moment):
        """How many steps this moment lies behind the last mark up to it."""
        self.check(moment)
        return moment % self.gap

    def behind(self, state):
        """The state behind the next step."""
        return stepped(self.program, self.asked, state)

    def is_last(self, moment, state):
        """Whether the run has no moment behind this one, which has this state."""
        return moment >= self.most or is_over(self.program, state)

    def keep(self, state):
        """Marks one moment more, and every second one alone when they are too many."""
        self.kept.append(state)
        if len(self.kept) > MOST_MARKS:
            self.kept = self.kept[::2]
            self.gap *= 2

    def reach(self, moment):
        """Runs on up to this moment, or to the last one, and marks on the way."""
        while self.farthest < moment and not self.is_last(self.farthest, self.front):
            self.front = self.behind(self.front)
            self.farthest += 1
            if self.farthest % self.gap == 0:
                self.keep(self.front)

    def has(self, moment):
        """Whether this moment is there; asks about it."""
        if not is_whole(moment) or moment < 0 or moment > self.most:
            return False
        self.reach(moment)
        return moment <= self.farthest

    def check(self, moment):
        """Asks about this moment, and refuses it where it is not there."""
        if not self.has(moment):
            raise NoMoment(f"no moment {moment!r}")

    def readings(self, reader):
        """What the reader tells of the state at each moment of the run."""
        # Only what is read is kept, since all states of a long run would be many.
        state = self.kept[0]
        told = [reader(state)]
        while not self.is_last(len(told) - 1, state):
            state = self.behind(state)
            told.append(reader(state))
        return told

    def steps_to(self, moment, reader):
        """What the reader tells of each step up to this moment, by its row and the state ahead of it."""
        self.check(moment)
        state = self.kept[0]
        told = []
        for step in range(moment):
            told.append(reader(self.program[state[ROW]], state))
            state = self.behind(state)
        return told

    def first_from(self, moment, test):
        """The first moment from this one on whose state passes the test, or None."""
        state = self.at(moment)
        while not test(state):
            if self.is_last(moment, state):
                return None
            state = self.behind(state)
            moment += 1
        return moment

    def last_to(self, moment, test):
        """The last moment up to this one whose state passes the test, or None."""
        self.check(moment)
        found = None
        # From mark to mark, so that what lies near is found without the whole run.
        while found is None and moment >= 0:
            mark = moment - moment % self.gap
            found = self.last_between(mark, moment, test)
            moment = mark - 1
        return found

    def last_between(self, mark, moment, test):
        """The last moment from a mark up to this one whose state passes the test, or None."""
        state = self.kept[mark // self.gap]
        found = None
        for number in range(mark, moment + 1):
            if number > mark:
                state = self.behind(state)
            if test(state):
                found = number
        return found
