"""Promise 0.2 (f) over drawn trees, each answer held against lists of all states of their runs."""

import unittest

from backtape.errors import NoMoment
from backtape.steps import is_over, states, stepped
from backtape.trees import Tree
from helper import LETTERS, THINGS, Draw, drawn_runs

MANY = 300


def worth_of(state, thing):
    return state[1][LETTERS.index(thing)] if isinstance(thing, str) else state[2][thing]


def with_worth(state, thing, worth):
    names = list(state[1])
    cells = list(state[2])
    if isinstance(thing, str):
        names[LETTERS.index(thing)] = worth
    else:
        cells[thing] = worth
    return (state[0], tuple(names), tuple(cells)) + state[3:]


class Grown:
    """A drawn tree, and beside it all states of its runs, and where they parted."""

    def __init__(self, seed, program, asked, most):
        self.draw = Draw(20000 + seed)
        self.program = program
        self.asked = asked
        self.most = most
        self.tree = Tree(program, asked, most)
        self.runs = [states(program, asked, most)]
        self.parents = [None]
        # Runs with the same worth as the one from which they parted, no matter whether that one parted later.
        self.same = []
        for _ in range(2 + self.draw.below(7)):
            self.part()

    def part(self):
        run = self.draw.below(len(self.runs))
        moment = self.draw.below(len(self.runs[run]))
        state = self.runs[run][moment]
        thing = self.draw.of(THINGS + ("a", "b", "f", "f"))
        worth = worth_of(state, thing) if self.draw.below(3) == 0 else self.draw.of((0, 1, 2, self.draw.below(10007)))
        if worth == worth_of(state, thing):
            self.same.append(len(self.runs))
        told = self.runs[run][:moment] + [with_worth(state, thing, worth)]
        while len(told) <= self.most and not is_over(self.program, told[-1]):
            told.append(stepped(self.program, self.asked, told[-1]))
        self.told = self.tree.part(run, moment, thing, worth)
        self.runs.append(told)
        self.parents.append((run, moment))

    def path(self, run):
        return [0] if run == 0 else self.path(self.parents[run][0]) + [run]

    def parted(self, run):
        return 0 if run == 0 else self.parents[run][1]


TREES = [Grown(seed, *drawn) for seed, drawn in enumerate(drawn_runs(MANY))]


class DrawnTreesTest(unittest.TestCase):
    def over_trees(self, check):
        for grown in TREES:
            with self.subTest(program=grown.program, asked=grown.asked, most=grown.most, parents=grown.parents):
                check(grown)

    def over_pairs(self, check):
        def check_pairs(grown):
            for one in range(len(grown.runs)):
                for other in range(len(grown.runs)):
                    check(grown, one, other)
        self.over_trees(check_pairs)

    def test_what_is_drawn_is_worth_asking(self):
        """Enough runs that parted ahead of where the other one did, with the same worth, and at each end."""
        sorts = ("ahead", "same", "first", "last", "late", "equal", "ends")
        found = {sort: 0 for sort in sorts}
        for grown in TREES:
            partings = [parent for parent in grown.parents if parent is not None]
            pairs = [(one, other) for one in range(len(grown.runs)) for other in range(one)]
            found["ahead"] += any([moment < grown.parted(run) for run, moment in partings])
            found["same"] += len(grown.same) > 0
            found["first"] += any([moment == 0 for run, moment in partings])
            found["last"] += any([moment == len(grown.runs[run]) - 1 for run, moment in partings])
            found["late"] += any([(grown.tree.apart(*pair) or 0) > grown.tree.shared(*pair) for pair in pairs])
            found["equal"] += any([grown.tree.apart(*pair) is None for pair in pairs])
            found["ends"] += len({len(told) for told in grown.runs}) > 1
        for sort, many in found.items():
            self.assertGreaterEqual(many, MANY // 20, sort)

    def test_f_the_states_of_all_runs(self):
        def check(grown):
            self.assertEqual(grown.told, len(grown.runs) - 1)
            for run, wanted in enumerate(grown.runs):
                self.assertEqual(grown.tree.end(run), len(wanted) - 1)
                moments = sorted(range(len(wanted)), key=lambda moment: (moment * 7 + run) % 11)
                self.assertEqual([grown.tree.at(run, moment) for moment in moments], [wanted[m] for m in moments])
                for moment in (-1, len(wanted)):
                    self.assertRaises(NoMoment, grown.tree.at, run, moment)
        self.over_trees(check)

    def test_f_as_the_other_one_up_to_that_moment(self):
        def check(grown):
            tree = grown.tree
            for run in range(1, len(grown.runs)):
                other, moment = tree.parent(run)
                for ahead in range(moment):
                    self.assertEqual(tree.at(run, ahead), tree.at(other, ahead))
                if run in grown.same and moment >= grown.parted(other):
                    self.assertEqual(tree.end(run), tree.end(other))
                    for number in range(tree.end(run) + 1):
                        self.assertEqual(tree.at(run, number), tree.at(other, number))
                    self.assertIsNone(tree.apart(run, other))
        self.over_trees(check)

    def test_f_told_apart_where_they_first_differ(self):
        def check(grown, one, other):
            first = grown.runs[one]
            second = grown.runs[other]
            moments = [m for m in range(max(len(first), len(second))) if first[m:m + 1] != second[m:m + 1]]
            self.assertEqual(grown.tree.apart(one, other), min(moments, default=None))
        self.over_pairs(check)

    def test_f_shared_moments_are_the_same(self):
        def check(grown, one, other):
            alone = set(grown.path(one)) ^ set(grown.path(other))
            many = min([len(grown.runs[one]), len(grown.runs[other])] + [grown.parted(run) for run in alone])
            self.assertEqual(grown.tree.shared(one, other), many)
            self.assertEqual(grown.runs[one][:many], grown.runs[other][:many])
        self.over_pairs(check)

    def test_parents_paths_and_children(self):
        def check(grown):
            for run, parent in enumerate(grown.parents):
                self.assertEqual(grown.tree.parent(run), parent)
                self.assertEqual(grown.tree.path(run), grown.path(run))
                children = [other for other in range(1, len(grown.runs)) if grown.parents[other][0] == run]
                self.assertEqual(grown.tree.children(run), children)
        self.over_trees(check)

    def test_what_runs_end_with(self):
        def check(grown):
            for thing in THINGS:
                ends = [worth_of(told[-1], thing) for told in grown.runs]
                for worth in set(ends) | {0, 5}:
                    wanted = [run for run, end in enumerate(ends) if end == worth]
                    self.assertEqual(grown.tree.ends_with(thing, worth), wanted)
        self.over_trees(check)


if __name__ == "__main__":
    unittest.main()
