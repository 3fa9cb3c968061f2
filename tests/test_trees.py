"""Promises 8.1 and 8.2, and 0.3 where it speaks of them."""

import unittest

from backtape.errors import NoMoment, NoRun, NoThing
from backtape.steps import begun, is_over, states, stepped
from backtape.tapes import Tape
from backtape.trees import Tree
from helper import NO_THINGS, STOP, THINGS, kinds, name, num

# Counts a up to 3 and says it; the last moment is 10.
COUNT = (
    ("set", "a", ("add", name("a"), num(1))), ("unless", ("less", name("a"), num(3)), 3), ("jump", 0),
    ("say", name("a")), ("ask", "b"), STOP,
)
NO_RUNS = (-1, -2, 1, 2, 100)


def states_from(program, asked, state, many):
    """The state, and those behind it: so many steps at most."""
    told = [state]
    while len(told) <= many and not is_over(program, told[-1]):
        told.append(stepped(program, asked, told[-1]))
    return told


def changed(state, thing, worth):
    """The state, with this worth of the thing."""
    parts = [list(part) if isinstance(part, tuple) else part for part in state]
    if isinstance(thing, str):
        parts[1]["abcdef".index(thing)] = worth
    else:
        parts[2][thing] = worth
    return tuple([tuple(part) if isinstance(part, list) else part for part in parts])


class Told(unittest.TestCase):
    def same(self, told, wanted):
        self.assertEqual(kinds(told), kinds(wanted))

    def run_is(self, tree, run, wanted):
        """All states of a run, in the order of the moments and back, and that there are no others."""
        last = len(wanted) - 1
        self.same([tree.at(run, moment) for moment in range(last + 1)], wanted)
        self.same([tree.at(run, moment) for moment in reversed(range(last + 1))], wanted[::-1])
        self.same(tree.end(run), last)
        for moment in (-2, -1, last + 1, last + 2, last + 100):
            with self.assertRaises(NoMoment, msg=(run, moment)):
                tree.at(run, moment)


class PartTest(Told):
    def setUp(self):
        self.tree = Tree(COUNT, [7], 50)
        self.whole = states(COUNT, [7], 50)

    def test_a_new_tree_has_the_moments_of_a_tape(self):
        self.run_is(self.tree, 0, self.whole)
        for most in (0, 1, 5, 10, 11):
            tape = Tape(COUNT, [7], 2, most)
            wanted = [tape.at(moment) for moment in range(tape.end() + 1)]
            self.run_is(Tree(COUNT, [7], most), 0, wanted)
        self.run_is(Tree((), [], 9), 0, [begun()])

    def test_between(self):
        # At moment 4 a is 2; with 0 there, one time more is counted.
        self.same(self.tree.part(0, 4, "a", 0), 1)
        wanted = self.whole[:4] + states_from(COUNT, [7], changed(self.whole[4], "a", 0), 46)
        self.run_is(self.tree, 1, wanted)
        self.same(self.tree.end(1), 16)
        self.run_is(self.tree, 0, self.whole)

    def test_at_the_first_moment(self):
        self.same(self.tree.part(0, 0, "a", 5), 1)
        wanted = states_from(COUNT, [7], changed(begun(), "a", 5), 50)
        self.run_is(self.tree, 1, wanted)
        self.same(self.tree.at(1, 0), (0, (5, 0, 0, 0, 0, 0), (0, 0, 0, 0), (), 0, ()))
        self.same(self.tree.end(1), 4)

    def test_at_the_last_moment(self):
        last = len(self.whole) - 1
        self.same(self.tree.part(0, last, 3, 99), 1)
        self.run_is(self.tree, 1, self.whole[:-1] + [changed(self.whole[-1], 3, 99)])
        tree = Tree(COUNT, [7], 5)
        self.same(tree.part(0, 5, "a", 99), 1)
        self.run_is(tree, 1, self.whole[:5] + [changed(self.whole[5], "a", 99)])

    def test_with_the_same_worth(self):
        for number, moment in enumerate((0, 3, 4, 9, 10)):
            self.same(self.tree.part(0, moment, "a", self.whole[moment][1][0]), number + 1)
            self.run_is(self.tree, number + 1, self.whole)

    def test_each_thing(self):
        for number, thing in enumerate(THINGS):
            self.same(self.tree.part(0, 9, thing, 1000), number + 1)
            wanted = self.whole[:9] + states_from(COUNT, [7], changed(self.whole[9], thing, 1000), 50)
            self.run_is(self.tree, number + 1, wanted)

    def test_from_runs_that_parted(self):
        one = self.tree.part(0, 4, "a", 0)
        of_one = [self.tree.at(one, moment) for moment in range(17)]
        # Behind the moment at which the other one parted, at it, and ahead of it.
        behind = self.tree.part(one, 8, "a", 9)
        at_once = self.tree.part(one, 4, "b", 3)
        ahead = self.tree.part(one, 2, "c", 8)
        self.same([one, behind, at_once, ahead], [1, 2, 3, 4])
        self.run_is(self.tree, behind, of_one[:8] + states_from(COUNT, [7], changed(of_one[8], "a", 9), 42))
        self.run_is(self.tree, at_once, of_one[:4] + states_from(COUNT, [7], changed(of_one[4], "b", 3), 46))
        self.same(self.tree.at(at_once, 4)[1], (0, 3, 0, 0, 0, 0))
        # That the other one has another worth at moment 4 is of no matter here.
        self.run_is(self.tree, ahead, [changed(state, "c", 8) if moment >= 2 else state
                                       for moment, state in enumerate(self.whole)])
        self.run_is(self.tree, one, of_one)
        self.run_is(self.tree, 0, self.whole)

    def test_a_long_line_of_runs(self):
        run = 0
        for number in range(300):
            run = self.tree.part(run, number % 11, number % 4, number)
            self.same(run, number + 1)
        self.same(self.tree.path(run), list(range(301)))
        # The last one parted at moment 2, from one at 1, from one at 0: what others had behind that is gone.
        self.same(self.tree.parent(run), (299, 2))
        self.same(self.tree.at(run, 0), (0, (0,) * 6, (264, 297, 286, 275), (), 0, ()))
        self.same(self.tree.at(run, 1)[2], (264, 297, 298, 275))
        self.same(self.tree.at(run, 2)[2], (264, 297, 298, 299))

    def test_up_to_most(self):
        endless = (("set", "a", ("add", name("a"), num(1))), ("jump", 0))
        for most in (0, 1, 7):
            for moment in range(most + 1):
                tree = Tree(endless, [], most)
                whole = states(endless, [], most)
                tree.part(0, moment, "a", 50)
                wanted = whole[:moment] + states_from(endless, [], changed(whole[moment], "a", 50), most - moment)
                self.same(len(wanted), most + 1)
                self.run_is(tree, 1, wanted)

    def test_most_of_nought(self):
        tree = Tree(COUNT, [7], 0)
        self.same(tree.part(0, 0, 2, 4), 1)
        self.run_is(tree, 1, [(0, (0,) * 6, (0, 0, 4, 0), (), 0, ())])
        self.run_is(tree, 0, [begun()])
        self.same(tree.apart(0, 1), 0)

    def test_what_is_asked_goes_on_from_there(self):
        program = (("ask", "a"), ("ask", "b"), ("ask", "c"))
        tree = Tree(program, [5, 6, 7], 9)
        tree.part(0, 2, "a", 1)
        self.same(tree.at(1, 3), (3, (1, 6, 7, 0, 0, 0), (0,) * 4, (), 3, ()))

    def test_open_calls_and_what_was_said_stay(self):
        program = (("call", 2), STOP, ("say", num(4)), ("unless", name("a"), 5), ("say", num(5)), ("back",))
        tree = Tree(program, [], 50)
        tree.part(0, 2, "a", 1)
        self.same(tree.at(1, 2), (3, (1, 0, 0, 0, 0, 0), (0,) * 4, (1,), 0, (4,)))
        self.same(tree.at(1, 5), (1, (1, 0, 0, 0, 0, 0), (0,) * 4, (), 0, (4, 5)))
        self.same(tree.end(0), 4)

    def test_a_list_that_is_changed_later_changes_no_run(self):
        asked = [7]
        tree = Tree(COUNT, asked, 50)
        asked[0] = 8
        asked.append(9)
        tree.part(0, 3, "c", 1)
        self.run_is(tree, 0, self.whole)
        self.same(tree.at(1, 10)[1], (3, 7, 1, 0, 0, 0))
        self.same(asked, [8, 9])

    def test_another_tree_stays_as_it_was(self):
        other = Tree(COUNT, [7], 50)
        self.tree.part(0, 4, "a", 0)
        self.tree.part(1, 5, 0, 1)
        self.same(other.children(0), [])
        self.assertRaises(NoRun, other.at, 1, 0)
        self.run_is(other, 0, self.whole)
        self.same(other.part(0, 10, "a", 0), 1)
        self.same(self.tree.parent(1), (0, 4))


class RefusedTest(Told):
    def setUp(self):
        self.tree = Tree(COUNT, [7], 50)

    def unchanged(self, many):
        """That there are so many runs and no more."""
        self.assertRaises(NoRun, self.tree.end, many)
        self.same(self.tree.end(many - 1) >= 0, True)
        self.same(self.tree.ends_with("f", 0), list(range(many)))

    def test_no_run(self):
        tree = self.tree
        asks = (
            lambda run: tree.part(run, 0, "a", 1), lambda run: tree.at(run, 0), tree.end, tree.parent, tree.path,
            tree.children, lambda run: tree.shared(run, 0), lambda run: tree.shared(0, run),
            lambda run: tree.apart(run, 0), lambda run: tree.apart(0, run), lambda run: tree.apart(run, run),
            lambda run: tree.shared(run, run),
        )
        for ask in asks:
            for run in NO_RUNS:
                with self.assertRaises(NoRun, msg=run):
                    ask(run)
        self.unchanged(1)
        tree.part(0, 4, "a", 0)
        for ask in asks:
            for run in (-1, -2, 2, 3):
                with self.assertRaises(NoRun, msg=run):
                    ask(run)
        self.unchanged(2)

    def test_no_moment(self):
        for moment in (-1, -2, 11, 12, 50, 51):
            self.assertRaises(NoMoment, self.tree.part, 0, moment, "a", 1)
            self.assertRaises(NoMoment, self.tree.at, 0, moment)
        self.unchanged(1)
        # The run that parts here has moments up to 16, and one that parts from it up to 7.
        self.tree.part(0, 4, "a", 0)
        self.tree.part(1, 3, "a", 9)
        for run, moments in ((1, (-1, 17, 18, 51)), (2, (-1, 8, 10, 12, 51))):
            for moment in moments:
                self.assertRaises(NoMoment, self.tree.part, run, moment, "a", 1)
                self.assertRaises(NoMoment, self.tree.at, run, moment)
        self.unchanged(3)

    def test_no_thing(self):
        for thing in NO_THINGS:
            for moment in (0, 4, 10):
                with self.assertRaises(NoThing, msg=thing):
                    self.tree.part(0, moment, thing, 1)
            with self.assertRaises(NoThing, msg=thing):
                self.tree.ends_with(thing, 0)
        self.unchanged(1)
        self.same(self.tree.part(0, 4, "a", 1), 1)
        self.unchanged(2)


class KinTest(Told):
    """0 - 1 at 4 - (3 at 2, 4 at 6 - 5 at 6); 0 - 2 at 4."""

    def setUp(self):
        self.tree = Tree(COUNT, [7], 50)
        self.tree.part(0, 4, "a", 0)
        self.tree.part(0, 4, "a", 1)
        self.tree.part(1, 2, "c", 8)
        self.tree.part(1, 6, "b", 1)
        self.tree.part(4, 6, "b", 2)

    def test_parent(self):
        told = [self.tree.parent(run) for run in range(6)]
        self.same(told, [None, (0, 4), (0, 4), (1, 2), (1, 6), (4, 6)])

    def test_path(self):
        told = [self.tree.path(run) for run in range(6)]
        self.same(told, [[0], [0, 1], [0, 2], [0, 1, 3], [0, 1, 4], [0, 1, 4, 5]])

    def test_children(self):
        told = [self.tree.children(run) for run in range(6)]
        self.same(told, [[1, 2], [3, 4], [], [], [5], []])

    def test_lists_are_new_ones_each_time(self):
        self.tree.path(5).clear()
        self.tree.children(0).clear()
        self.tree.ends_with("f", 0).clear()
        self.same(self.tree.path(5), [0, 1, 4, 5])
        self.same(self.tree.children(0), [1, 2])
        self.same(self.tree.ends_with("f", 0), [0, 1, 2, 3, 4, 5])

    def test_shared(self):
        self.same([self.tree.end(run) for run in range(6)], [10, 16, 13, 10, 16, 16])
        wanted = [
            [11, 4, 4, 2, 4, 4],
            [4, 17, 4, 2, 6, 6],
            [4, 4, 14, 2, 4, 4],
            [2, 2, 2, 11, 2, 2],
            [4, 6, 4, 2, 17, 6],
            [4, 6, 4, 2, 6, 17],
        ]
        self.same([[self.tree.shared(one, other) for other in range(6)] for one in range(6)], wanted)

    def test_shared_where_a_run_has_fewer_moments(self):
        # Run 1 is over at moment 4, ahead of the moment at which run 2 parted from run 0.
        tree = Tree(COUNT, [7], 50)
        tree.part(0, 0, "a", 5)
        tree.part(0, 9, "a", 5)
        self.same(tree.end(1), 4)
        self.same(tree.shared(1, 2), 0)
        # A run that parts from run 2 far ahead: it is over ahead of the moment at which run 2 parted.
        tree.part(2, 1, "a", 5)
        self.same(tree.end(3), 4)
        self.same(tree.shared(2, 3), 1)
        tree.part(2, 10, "b", 5)
        self.same(tree.shared(2, 4), 10)
        self.same(tree.shared(4, 4), 11)

    def test_shared_with_a_run_that_parted_at_the_last_moment(self):
        tree = Tree(COUNT, [7], 5)
        tree.part(0, 5, "a", 9)
        tree.part(0, 0, "a", 0)
        self.same([tree.shared(0, 1), tree.shared(1, 0), tree.shared(0, 0), tree.shared(1, 1)], [5, 5, 6, 6])
        self.same([tree.shared(0, 2), tree.shared(1, 2), tree.shared(2, 2)], [0, 0, 6])

    def test_apart(self):
        wanted = [
            [None, 4, 4, 2, 4, 4],
            [4, None, 4, 2, 6, 6],
            [4, 4, None, 2, 4, 4],
            [2, 2, 2, None, 2, 2],
            [4, 6, 4, 2, None, 6],
            [4, 6, 4, 2, 6, None],
        ]
        self.same([[self.tree.apart(one, other) for other in range(6)] for one in range(6)], wanted)

    def test_apart_of_runs_whose_states_are_the_same(self):
        tree = Tree(COUNT, [7], 50)
        tree.part(0, 4, "a", 2)
        tree.part(0, 4, "a", 5)
        tree.part(0, 4, "a", 5)
        tree.part(1, 6, "b", 0)
        self.same([tree.apart(0, 1), tree.apart(1, 0), tree.apart(2, 3), tree.apart(1, 4)], [None] * 4)
        self.same([tree.shared(0, 1), tree.shared(2, 3), tree.shared(1, 4), tree.shared(0, 4)], [4, 4, 6, 4])
        self.same([tree.apart(0, 2), tree.apart(1, 3), tree.apart(4, 2)], [4, 4, 4])

    def test_apart_later_than_they_part(self):
        tree = Tree(COUNT, [7], 50)
        same = tree.part(0, 2, "a", 1)
        other = tree.part(same, 7, "c", 1)
        again = tree.part(0, 7, "c", 1)
        self.same([tree.shared(0, other), tree.apart(0, other)], [2, 7])
        self.same([tree.shared(other, again), tree.apart(other, again)], [2, None])

    def test_apart_where_the_other_one_parts_behind(self):
        # Run 2 parted from run 1 ahead of where that one has another worth, which it has not.
        tree = Tree(COUNT, [7], 50)
        tree.part(0, 6, "d", 1)
        tree.part(1, 3, "a", 1)
        self.same([tree.shared(1, 2), tree.apart(1, 2), tree.apart(2, 1)], [3, 6, 6])
        self.same([tree.shared(0, 2), tree.apart(0, 2)], [3, None])

    def test_apart_of_runs_that_end_at_other_moments(self):
        program = (("set", "a", num(0)), ("unless", name("b"), 3), ("say", num(1)), STOP)
        tree = Tree(program, [], 50)
        tree.part(0, 2, "b", 0)
        tree.part(0, 1, "b", 1)
        self.same([tree.end(0), tree.end(1), tree.end(2)], [2, 2, 3])
        self.same([tree.apart(0, 1), tree.apart(0, 2), tree.apart(1, 2)], [None, 1, 1])
        self.same([tree.shared(0, 1), tree.shared(0, 2), tree.shared(1, 2), tree.shared(2, 2)], [2, 1, 1, 4])

    def test_ends_with(self):
        # At the last moments a is 3, but in none of the runs that were told otherwise.
        tree = Tree(COUNT, [7], 50)
        tree.part(0, 9, "a", 8)
        tree.part(0, 4, "a", 0)
        tree.part(0, 10, "b", 3)
        tree.part(2, 3, 0, 8)
        self.same(tree.ends_with("a", 3), [0, 2, 3, 4])
        self.same(tree.ends_with("a", 8), [1])
        self.same(tree.ends_with("a", 0), [])
        self.same(tree.ends_with("b", 7), [0, 1, 2, 4])
        self.same(tree.ends_with("b", 3), [3])
        self.same(tree.ends_with(0, 8), [4])
        self.same(tree.ends_with(0, 0), [0, 1, 2, 3])
        self.same(tree.ends_with(3, 0), [0, 1, 2, 3, 4])
        self.same(tree.ends_with(1, 5), [])


if __name__ == "__main__":
    unittest.main()
