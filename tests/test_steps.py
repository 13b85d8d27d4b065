import itertools
import random
import unittest

from bagwood.bags import fault, rooted, width
from bagwood.errors import NoSteps, NoTree, TooWide
from bagwood.graphs import graph
from bagwood.least import least_tree, least_width
from bagwood.orders import tree_of
from bagwood.steps import bags_of, steps_fault, steps_of
from tests.helper import (BIG, all_graphs, all_pairs, check_refused, drawn_steps, drawn_worlds, mixed_graphs,
                          slow_run, slow_steps_fault, small_trees)

LEAF, JOIN = ("leaf",), ("join",)
ONE_TIE = (2, [(0, 1)])
TIED = [LEAF, ("in", 0), ("in", 1), ("tie", 0, 1), ("out", 0), ("out", 1)]
# Two branches that hold 1, one above 0, the other above 2.
BRANCHED = [LEAF, ("in", 0), ("in", 1), ("tie", 0, 1), ("out", 0),
            LEAF, ("in", 2), ("in", 1), ("tie", 1, 2), ("out", 2), JOIN, ("out", 1)]
WAY = (3, [(0, 1), (1, 2)])


class StepsFault(unittest.TestCase):
    def check(self, g, steps, told):
        self.assertEqual(slow_steps_fault(g, steps), told, (g, steps))
        self.assertEqual(steps_fault(g, steps), told, (g, steps))

    def test_steps_that_fit(self):
        self.check((0, []), [LEAF], None)
        self.check((0, []), [LEAF, LEAF, JOIN], None)
        self.check((0, []), [LEAF, LEAF, LEAF, JOIN, JOIN], None)
        self.check(ONE_TIE, TIED, None)
        self.check(WAY, BRANCHED, None)
        # A bag without places is joined with one from which all have gone.
        self.check(ONE_TIE, TIED + [LEAF, JOIN], None)
        self.check(ONE_TIE, [LEAF] + TIED + [JOIN], None)

    def test_the_pile_at_the_end(self):
        self.check((0, []), [], ("pile",))
        self.check(ONE_TIE, [], ("pile",))
        self.check((0, []), [LEAF, LEAF], ("pile",))
        self.check(ONE_TIE, TIED + [LEAF], ("pile",))
        self.check(ONE_TIE, TIED[:-1], ("pile",))
        self.check((3, []), [LEAF, ("in", 2)], ("pile",))
        self.check(ONE_TIE, TIED[:2] + [LEAF], ("pile",))

    def test_a_place_never_put_in(self):
        self.check((1, []), [LEAF], ("place", 0))
        self.check((5, [(0, 1)]), TIED, ("place", 2))
        self.check((5, [(3, 4)]), [LEAF, ("in", 1), ("out", 1)], ("place", 0))
        self.check((5, []), [LEAF] + [(kind, v) for v in (0, 1, 2, 4) for kind in ("in", "out")], ("place", 3))

    def test_a_tie_never_brought(self):
        self.check(ONE_TIE, TIED[:3] + TIED[4:], ("tie", 0, 1))
        three = (3, all_pairs(3))
        ins, outs = [("in", v) for v in range(3)], [("out", v) for v in range(3)]
        for brought in ([], [(0, 1)], [(1, 2)], [(0, 2), (0, 1)], [(1, 2), (0, 2)], [(0, 1), (1, 2)]):
            lacks = [tie for tie in three[1] if tie not in brought][0]
            steps = [LEAF] + ins + [("tie",) + tie for tie in brought] + outs
            self.check(three, steps, ("tie",) + lacks)

    def test_a_place_put_in(self):
        for v in (2, 3, 10, -1, -2, BIG, -BIG):
            self.check(ONE_TIE, TIED[:2] + [("in", v)] + TIED[2:], ("step", 2))
        self.check(ONE_TIE, TIED[:2] + [("in", 0)] + TIED[2:], ("step", 2))
        self.check(ONE_TIE, TIED[:5] + [("in", 0)] + TIED[5:], ("step", 5))
        # In another bag it can be put in too, but not once it has gone anywhere.
        self.check(ONE_TIE, TIED[:4] + [LEAF, ("in", 0), ("in", 1), JOIN] + TIED[4:], None)
        self.check(ONE_TIE, TIED[:5] + [LEAF, ("in", 0), ("in", 1), JOIN] + TIED[5:], ("step", 6))
        self.check(ONE_TIE, TIED[:5] + [LEAF, ("in", 1), JOIN] + TIED[5:], None)
        self.check(WAY, BRANCHED[:6] + [("in", 0)] + BRANCHED[6:], ("step", 6))

    def test_a_tie_brought(self):
        for tie in ((1, 0), (0, 0), (0, 2), (2, 0), (1, 2), (-1, 0), (0, BIG), (-BIG, 1), (BIG, BIG)):
            self.check(ONE_TIE, TIED[:3] + [("tie",) + tie] + TIED[3:], ("step", 3))
        self.check(ONE_TIE, TIED[:4] + TIED[3:], ("step", 4))
        for at in (1, 2):
            self.check(ONE_TIE, TIED[:at] + [TIED[3]] + TIED[at:], ("step", at))
        self.check(ONE_TIE, TIED[:3] + TIED[4:5] + TIED[3:4] + TIED[5:], ("step", 4))
        self.check((3, [(0, 1)]), TIED[:3] + [("in", 2), ("tie", 0, 2)], ("step", 4))
        # Brought once in each of two branches, that is twice.
        branch = [LEAF, ("in", 0), ("in", 1), ("tie", 0, 1)]
        self.check(ONE_TIE, branch + branch + [JOIN, ("out", 0), ("out", 1)], ("step", 7))
        self.check(ONE_TIE, branch + branch[:3] + [JOIN, ("out", 0), ("out", 1)], None)
        self.check(ONE_TIE, branch[:3] + branch[:3] + [JOIN] + TIED[3:], None)
        # Both places stand on the pile, but not in the top bag.
        self.check(ONE_TIE, [LEAF, ("in", 0), LEAF, ("in", 1), ("tie", 0, 1)], ("step", 4))
        self.check(ONE_TIE, branch[:3] + [LEAF, ("tie", 0, 1)], ("step", 4))

    def test_a_place_taken_out(self):
        for v in (1, 2, -1, BIG, -BIG):
            self.check(ONE_TIE, TIED[:2] + [("out", v)] + TIED[2:], ("step", 2))
        self.check(ONE_TIE, TIED[:5] + [("out", 0)] + TIED[5:], ("step", 5))
        # It stands in two bags, and is taken out of both.
        both = [LEAF, ("in", 0), LEAF, ("in", 0)]
        self.check((1, []), both + [("out", 0), JOIN], ("step", 5))
        self.check((1, []), both + [JOIN, ("out", 0)], None)
        self.check((1, []), both + [JOIN, ("out", 0), ("out", 0)], ("step", 6))
        self.check((1, []), both + [("out", 0), LEAF, JOIN, ("out", 0)], ("step", 7))
        self.check((1, []), both + [("out", 0)], ("pile",))
        again = both + [("out", 0)] + [LEAF, ("in", 0)]
        self.check((1, []), again, ("step", 6))

    def test_a_place_taken_out_of_a_second_bag(self):
        # Behind the join of the two upper bags the lower one, that holds 0 still, is on top.
        steps = [LEAF, ("in", 0), LEAF, ("in", 0), LEAF, ("in", 0), JOIN, ("out", 0)]
        self.check((1, []), steps, ("pile",))
        self.check((2, []), [LEAF, ("in", 0), LEAF, ("in", 0), ("out", 0), ("out", 0)], ("step", 5))

    def test_a_join(self):
        self.check((0, []), [LEAF, JOIN], ("step", 1))
        self.check((0, []), [JOIN], ("step", 0))
        self.check((2, []), [LEAF, ("in", 0), LEAF, JOIN], ("step", 3))
        self.check((2, []), [LEAF, LEAF, ("in", 0), JOIN], ("step", 3))
        self.check((2, []), [LEAF, ("in", 0), LEAF, ("in", 1), JOIN], ("step", 4))
        self.check((2, []), [LEAF, ("in", 0), ("in", 1), LEAF, ("in", 1), ("in", 0), JOIN], ("pile",))
        # The two top bags are unlike, though the lowest one is like the top.
        self.check((2, []), [LEAF, ("in", 0), LEAF, LEAF, ("in", 0), JOIN], ("step", 5))

    def test_without_a_bag(self):
        for step in (("in", 0), ("out", 0), ("tie", 0, 1), JOIN):
            self.check(ONE_TIE, [step], ("step", 0))
            self.check(ONE_TIE, [step] + TIED, ("step", 0))

    def test_the_first_step_decides(self):
        self.check((5, [(2, 3)]), [LEAF, ("out", 1), ("in", 7), JOIN], ("step", 1))
        self.check((5, [(2, 3)]), [LEAF, ("in", 7), ("out", 1), JOIN], ("step", 1))

    def test_every_short_row_of_steps(self):
        steps = [LEAF, JOIN, ("in", 0), ("in", 1), ("out", 0), ("out", 1), ("tie", 0, 1)]
        for many in range(6):
            for some in itertools.product(steps, repeat=many):
                if not many or some[0] == LEAF:
                    for g in (ONE_TIE, (1, [])):
                        self.assertEqual(steps_fault(g, list(some)), slow_steps_fault(g, list(some)), (g, some))

    def test_drawn_steps_with_one_thing_changed(self):
        chance = random.Random(30)
        seen = []
        for g, rows in drawn_worlds(30, 250, 7, 8, 4):
            steps = drawn_steps(chance, g, rows)
            self.check(g, steps, None)
            for one in range(12):
                k = chance.randrange(len(steps))
                other = chance.choice([LEAF, JOIN] + steps + [("in", chance.randint(-1, 8)),
                                                              ("out", chance.randint(-1, 8)),
                                                              ("tie", chance.randint(0, 6), chance.randint(0, 6))])
                changed = chance.choice([steps[:k] + steps[k + 1:], steps[:k] + [other] + steps[k + 1:],
                                         steps[:k] + [other] + steps[k:], steps[:k],
                                         steps[:k] + steps[k:k + 2][::-1] + steps[k + 2:]])
                told = slow_steps_fault(g, changed)
                self.assertEqual(steps_fault(g, changed), told, (g, changed))
                seen.append(None if told is None else told[0])
        self.assertEqual(sorted(set(seen), key=str), sorted([None, "step", "pile", "place", "tie"], key=str))

    def test_many_steps(self):
        self.check((1, []), [LEAF] * 200 + [JOIN] * 199 + [("in", 0), ("out", 0)][:1], ("pile",))
        self.check((0, []), [LEAF] * 200 + [JOIN] * 199, None)
        self.check((0, []), [LEAF] * 199 + [JOIN] * 201, ("step", 397))


class StepsOf(unittest.TestCase):
    def check(self, g, tree):
        steps = steps_of(g, tree)
        self.assertIsNone(steps_fault(g, steps), (g, tree))
        self.assertIsNone(slow_steps_fault(g, steps), (g, tree))
        most = max(len(places) for up, places in tree)
        for pile in slow_run(g, steps):
            self.assertLessEqual(max(len(bag[0]) for bag in pile), most, (g, tree))
        if len(tree) <= 20:
            self.assertLessEqual(len(steps), 400)
        self.assertTrue(all(isinstance(step, tuple) for step in steps))
        return steps

    def test_no_place(self):
        self.assertEqual(self.check((0, []), [(None, [])]), [LEAF])
        self.check((0, []), [(None, []), (0, []), (0, []), (1, [])])

    def test_every_small_tree(self):
        for g in all_graphs(2) + [(3, []), (3, [(0, 2)]), (3, all_pairs(3))]:
            for tree in small_trees(g[0], 3):
                if fault(g, tree) is None:
                    self.check(g, tree)
                else:
                    check_refused(self, NoTree, steps_of, g, tree)

    def test_drawn_trees(self):
        for most in (1, 2, 3, 4):
            for g, tree in drawn_worlds(most, 120, 10, 20, most):
                self.check(g, tree)
                self.check(g, rooted(tree, len(tree) - 1))
                self.check(g, rooted(tree, len(tree) // 2))

    def test_trees_of_up_to_thirty_rows(self):
        for g, tree in drawn_worlds(31, 60, 10, 30, 4):
            self.check(g, tree[:30] if fault(g, tree[:30]) is None else tree)
        whole = graph(4, all_pairs(4))
        for many in (20, 30):
            self.check(whole, [(None, [0, 1, 2, 3])] + [(k - 1, [0, 1, 2, 3]) for k in range(1, many)])
            self.check(whole, [(None, [0, 1, 2, 3])] + [(0, [0, 1, 2, 3]) for k in range(1, many)])
            # Each second bag is another one, so that much goes in and out.
            self.check((10, []), [(None, [])] + [(k - 1, [k // 2] if k % 2 else []) for k in range(1, 20)])

    def test_twenty_full_rows_of_unlike_bags(self):
        tree = [(None, [0, 1, 2, 3])] + [(0, [k % 3, k % 3 + 1, 4 + k % 6]) for k in range(1, 7)]
        tree += [(k, [tree[k][1][2]]) for k in range(1, 7)] + [(k, [tree[k][1][0]]) for k in range(1, 7)]
        g = graph(10, all_pairs(4) + [(k % 3, 4 + k % 6) for k in range(1, 7)])
        self.assertIsNone(fault(g, tree))
        self.check(g, tree)

    def test_least_trees_and_trees_of_orders(self):
        for g in mixed_graphs():
            if least_width(g) <= 3:
                tree = least_tree(g)
                for k in range(len(tree)):
                    self.check(g, rooted(tree, k))
            else:
                check_refused(self, TooWide, steps_of, g, least_tree(g))
            tree = tree_of(g, list(range(g[0])))
            if width(tree) <= 3:
                self.check(g, tree)
            else:
                check_refused(self, TooWide, steps_of, g, tree)

    def test_too_wide(self):
        for n in range(5, 11):
            for pairs in ([], all_pairs(n)):
                check_refused(self, TooWide, steps_of, graph(n, pairs), [(None, list(range(n)))])
        five = [(None, [0]), (0, [0, 1, 2, 3, 4]), (1, [5])]
        check_refused(self, TooWide, steps_of, (6, []), five)
        self.check((4, all_pairs(4)), [(None, [0, 1, 2, 3])])

    def test_no_tree_comes_first(self):
        five = [(None, [0]), (0, [0, 1, 2, 3, 4]), (1, [5])]
        check_refused(self, NoTree, steps_of, (7, []), five)
        check_refused(self, NoTree, steps_of, (6, [(4, 5)]), five)
        check_refused(self, NoTree, steps_of, (5, []), five)
        check_refused(self, NoTree, steps_of, (6, []), five + [(2, [0])])
        for rows in ([], [(0, [0])], [(None, [1, 0])], [(None, [0, 0])], [(None, [0]), (1, [])], [(None, [0, BIG])],
                     [(None, [-1, 0])], [(None, [])], [(None, [0]), (-1, [])], [(None, [0]), (None, [])]):
            check_refused(self, NoTree, steps_of, (1, []), rows)


class BagsOf(unittest.TestCase):
    def check(self, g, steps):
        rows = bags_of(g, steps)
        self.assertIsNone(fault(g, rows), (g, steps))
        piles = slow_run(g, steps)
        last = len(steps) - 1
        self.assertEqual(len(rows), len(steps))
        self.assertEqual([places for up, places in rows], [piles[last - k][-1][0] for k in range(len(steps))])
        for k in range(len(steps)):
            # The next step that works on the bag of step k is the first behind which it is on the pile no more.
            behind = [j for j in range(k + 1, len(steps)) if k not in [bag[3] for bag in piles[j]]]
            self.assertEqual(rows[last - k][0], last - behind[0] if behind else None, (g, steps))
        return rows

    def test_told_cases(self):
        self.assertEqual(bags_of((0, []), [LEAF]), [(None, [])])
        self.assertEqual(bags_of((0, []), [LEAF, LEAF, JOIN]), [(None, []), (0, []), (0, [])])
        self.assertEqual(bags_of(ONE_TIE, TIED),
                         [(None, []), (0, [1]), (1, [0, 1]), (2, [0, 1]), (3, [0]), (4, [])])
        self.assertEqual(bags_of(WAY, BRANCHED),
                         [(None, []), (0, [1]), (1, [1]), (2, [1, 2]), (3, [1, 2]), (4, [2]), (5, []),
                          (1, [1]), (7, [0, 1]), (8, [0, 1]), (9, [0]), (10, [])])
        self.check(WAY, BRANCHED)

    def test_a_low_bag_that_waits(self):
        g = (3, [])
        steps = [LEAF, ("in", 0), LEAF, ("in", 1), ("in", 0), ("out", 1), LEAF, ("in", 2), ("out", 2), ("in", 0),
                 JOIN, JOIN, ("out", 0)]
        rows = self.check(g, steps)
        self.assertEqual(rows[len(steps) - 1 - 1], (len(steps) - 1 - 11, [0]))

    def test_drawn_steps(self):
        chance = random.Random(32)
        for most in (1, 3, 4, 6, 10):
            for g, rows in drawn_worlds(32 + most, 60, 10, 9, most):
                self.check(g, drawn_steps(chance, g, rows))

    def test_steps_of_trees(self):
        for g, rows in drawn_worlds(37, 100, 10, 20, 4):
            tree = self.check(g, steps_of(g, rows))
            self.assertLessEqual(width(tree), width(rows))

    def test_wide_bags_are_no_hindrance(self):
        ins = [("in", v) for v in range(10)]
        ties = [("tie", a, b) for a, b in all_pairs(10)]
        outs = [("out", v) for v in range(10)]
        self.assertEqual(width(self.check(graph(10, all_pairs(10)), [LEAF] + ins + ties + outs)), 9)

    def test_steps_that_do_not_fit(self):
        for g, steps in ((ONE_TIE, []), ((0, []), []), (ONE_TIE, TIED[:-1]), (ONE_TIE, TIED + TIED[-1:]),
                         (ONE_TIE, TIED + [LEAF]), ((3, [(0, 1)]), TIED), (ONE_TIE, TIED[:3] + TIED[4:]),
                         ((2, []), TIED), (ONE_TIE, [JOIN] + TIED), (ONE_TIE, TIED[1:]), ((0, []), [LEAF, LEAF]),
                         ((1, []), [LEAF]), ((1, []), [LEAF, ("in", BIG)]), ((1, []), [LEAF, ("out", -BIG)])):
            check_refused(self, NoSteps, bags_of, g, steps)


if __name__ == "__main__":
    unittest.main()
