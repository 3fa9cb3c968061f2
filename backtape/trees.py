"""Trees: runs that part from others with another worth at a moment."""

from backtape.errors import NoMoment, NoRun
from backtape.programs import is_whole
from backtape.steps import begun, check_thing, with_thing, worth_in
from backtape.tapes import Tape


class Branch(Tape):
    """A tape that begins at any state, its moments numbered from there."""

    def __init__(self, program, asked, most, state):
        Tape.__init__(self, program, asked, 1, most)
        self.kept = [state]
        self.front = state


class Tree:
    """A run, and those that parted from it or from one another."""

    def __init__(self, program, asked, most):
        self.program = program
        # A copy, so that all runs have the same worths when the list is changed later.
        self.asked = list(asked)
        self.most = most
        # By run: where it parted, and the moments from there on, which it shares with no run ahead of it.
        self.origins = [None]
        self.branches = [Branch(program, asked, most, begun())]

    def part(self, run, moment, thing, worth):
        """Lets a run part from this one, with another worth at the moment; its number."""
        state = self.at(run, moment)
        check_thing(thing)
        self.origins.append((run, moment))
        self.branches.append(Branch(self.program, self.asked, self.most - moment, with_thing(state, thing, worth)))
        return len(self.branches) - 1

    def at(self, run, moment):
        """The state of the run at this moment."""
        self.check_run(run)
        holder = self.holder(run, moment)
        branch = self.branches[holder]
        number = moment - self.first(holder)
        if not branch.has(number):
            raise NoMoment(f"run {run} has no moment {moment!r}")
        return branch.at(number)

    def end(self, run):
        """The last moment of the run."""
        self.check_run(run)
        return self.first(run) + self.branches[run].end()

    def parent(self, run):
        """The run from which this one parted, and the moment; None of run 0."""
        self.check_run(run)
        return self.origins[run]

    def path(self, run):
        """The runs from 0 to this one, each the parent of the next."""
        self.check_run(run)
        runs = [run]
        while runs[-1] != 0:
            runs.append(self.origins[runs[-1]][0])
        return runs[::-1]

    def children(self, run):
        """All runs that parted from this one."""
        self.check_run(run)
        return [child for child in range(1, len(self.origins)) if self.origins[child][0] == run]

    def shared(self, one, other):
        """How many moments two runs share, for all that is known of where they parted."""
        # A run in the path of both is there twice.
        runs = self.path(one) + self.path(other)
        moments = [self.first(run) for run in runs if runs.count(run) == 1]
        return min([self.end(one) + 1, self.end(other) + 1] + moments)

    def apart(self, one, other):
        """The first moment at which two runs have other states, or just one has any; None without one."""
        partings = [self.first(run) for run in self.path(one) + self.path(other)]
        # Between partings each run goes on by itself, so that two that are the same stay so up to the next one.
        for moment in sorted(set(partings)):
            if self.found(one, moment) != self.found(other, moment):
                return moment
        return None

    def ends_with(self, thing, worth):
        """All runs at whose last moments the thing has the worth."""
        return [run for run in range(len(self.branches)) if worth_in(self.at(run, self.end(run)), thing) == worth]

    def check_run(self, run):
        """Refuses a number that no run has."""
        if not is_whole(run) or run < 0 or run >= len(self.branches):
            raise NoRun(f"no run {run!r}")

    def first(self, run):
        """The moment at which the run parted; 0 of run 0."""
        return 0 if run == 0 else self.origins[run][1]

    def holder(self, run, moment):
        """The run, this one or one ahead of it, in whose own moments this one is, if it is there."""
        while run != 0 and moment < self.first(run):
            run = self.origins[run][0]
        return run

    def found(self, run, moment):
        """The state of the run at this moment, or None."""
        try:
            return self.at(run, moment)
        except NoMoment:
            return None
