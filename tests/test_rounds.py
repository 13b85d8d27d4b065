import random
import unittest

from bagwood.asks import Apart, Colours, Question, Watch
from bagwood.bags import rooted
from bagwood.errors import NoSteps, NoTree, NoWeights, TooWide
from bagwood.graphs import graph
from bagwood.least import least_tree, least_width
from bagwood.links import Links
from bagwood.orders import tree_of
from bagwood.rounds import Rounds
from bagwood.steps import steps_of
from bagwood.tables import answer, tables, trail
from tests.helper import (SlowRounds, all_graphs, all_orders, all_pairs, are_tied, check_answer, check_refused,
                          check_tables, dense_worlds, drawn_steps, drawn_worlds, great_graphs, mixed_graphs,
                          wrong_amounts)

LEAF, JOIN = ("leaf",), ("join",)
MOST = 10 ** 30 - 1
THREE = (3, [(0, 1), (0, 2), (1, 2)])
AROUND = [LEAF] + [("in", v) for v in range(3)] + [("tie", 0, 1), ("tie", 0, 2), ("tie", 1, 2)]
AROUND += [("out", v) for v in range(3)]


def drawn_costs(chance, g):
    return [chance.choice([0, 1, 2, 3, 7, MOST, MOST - 1]) for tie in g[1]]


def all_turns(g, begun=(0,)):
    """Every round, from 0 on, the second less than the last, looked for tie by tie."""
    if len(begun) == g[0]:
        return [list(begun)] if g[0] > 2 and begun[1] < begun[-1] and are_tied(g, 0, begun[-1]) else []
    return [turn for v in range(g[0]) if v not in begun and are_tied(g, begun[-1], v)
            for turn in all_turns(g, begun + (v,))]


def cost_of(g, costs, turn):
    ties = [(min(pair), max(pair)) for pair in zip(turn, turn[1:] + turn[:1])]
    return sum(1 if costs is None else costs[g[1].index(tie)] for tie in ties)


class Tables(unittest.TestCase):
    def check(self, g, costs, steps):
        check_tables(self, SlowRounds(g, costs), Rounds(g, costs), g, steps)

    def test_told_cases(self):
        told = tables(AROUND, Rounds(THREE, [1, 2, 4]))
        self.assertEqual(told, [
            {(0,): (1, 0)}, {(0, 0): (1, 0)}, {(0, 0, 0): (1, 0)}, {(0, 0, 0, 0): (1, 0)},
            {(0, 0, 0, 0): (1, 0), (0, 1, 1, 0): (1, 1)},
            {(0, 0, 0, 0): (1, 0), (0, 1, 1, 0): (1, 1), (0, 1, 0, 1): (1, 2), (0, -1, 1, 1): (1, 3)},
            {(0, 0, 0, 0): (1, 0), (0, 1, 1, 0): (1, 1), (0, 1, 0, 1): (1, 2), (0, -1, 1, 1): (1, 3),
             (0, 0, 1, 1): (1, 4), (0, 1, -1, 1): (1, 5), (0, 1, 1, -1): (1, 6), (1, -1, -1, -1): (1, 7)},
            {(0, 1, 1): (1, 3), (1, -1, -1): (1, 7)}, {(1, -1): (1, 7)}, {(1,): (1, 7)}])
        self.assertEqual(trail(AROUND, Rounds(THREE)), [
            (0,), (0, 0), (0, 0, 0), (0, 0, 0, 0), (0, 1, 1, 0), (0, -1, 1, 1), (1, -1, -1, -1), (1, -1, -1), (1, -1),
            (1,)])

    def test_closed(self):
        # What comes in behind a closed one lies outside of it.
        steps = AROUND[:7] + [("in", 3)] + AROUND[7:] + [("out", 3)]
        g = (4, THREE[1])
        told = tables(steps, Rounds(g))
        self.assertIn((1, -1, -1, -1), told[6])
        self.assertNotIn(1, [state[0] for state in told[7]])
        self.assertEqual(told[-1], {})
        self.assertIsNone(trail(steps, Rounds(g)))
        self.check(g, [1, 2, 4], steps)

    def test_joins_with_a_closed_one(self):
        self.check(THREE, None, AROUND + [LEAF, JOIN])
        self.check(THREE, None, [LEAF] + AROUND + [JOIN])
        self.assertEqual(tables(AROUND + [LEAF, JOIN], Rounds(THREE))[-1], {(1,): (1, 3)})
        self.check(THREE, None, AROUND[:7] + AROUND[:4] + [JOIN] + AROUND[7:])
        self.check(THREE, None, AROUND[:4] + AROUND[:7] + [JOIN] + AROUND[7:])
        # Two rings side by side are no round.
        other = [("in", v) for v in range(3, 6)] + [("tie", 3, 4), ("tie", 3, 5), ("tie", 4, 5)]
        six = (6, THREE[1] + [(3, 4), (3, 5), (4, 5)])
        steps = AROUND + [LEAF] + other + [("out", v) for v in range(3, 6)] + [JOIN]
        self.assertEqual(tables(steps, Rounds(six))[-1], {})
        self.check(six, None, steps)
        # A ring, and a place beside it, are none either.
        steps = AROUND + [LEAF, ("in", 3), ("out", 3), JOIN]
        self.assertEqual(tables(steps, Rounds((4, THREE[1])))[-1], {})

    def test_rings_from_several_sides(self):
        ins = [LEAF] + [("in", v) for v in range(4)]
        outs = [("out", v) for v in range(4)]
        four = (4, all_pairs(4))
        chance = random.Random(40)
        for one in range(60):
            ties = [("tie",) + tie for tie in chance.sample(four[1], 6)]
            cut = sorted(chance.sample(range(7), 2))
            steps = ins + ties[:cut[0]] + ins + ties[cut[0]:cut[1]] + [JOIN] + ins + ties[cut[1]:] + [JOIN] + outs
            self.check(four, drawn_costs(chance, four), steps)

    def test_two_rings_closed_at_once(self):
        # In each of the two branches a path leads from 0 to 1 and one from 2 to 3.
        g = graph(8, [(0, 4), (1, 4), (2, 5), (3, 5), (0, 6), (1, 6), (2, 7), (3, 7)])
        left = [LEAF, ("in", 0), ("in", 1), ("in", 4), ("tie", 0, 4), ("tie", 1, 4), ("out", 4),
                ("in", 2), ("in", 3)]
        low = [LEAF, ("in", 2), ("in", 3), ("in", 5), ("tie", 2, 5), ("tie", 3, 5), ("out", 5), ("in", 0), ("in", 1)]
        right = [LEAF, ("in", 0), ("in", 1), ("in", 6), ("tie", 0, 6), ("tie", 1, 6), ("out", 6),
                 ("in", 2), ("in", 3)]
        deep = [LEAF, ("in", 2), ("in", 3), ("in", 7), ("tie", 2, 7), ("tie", 3, 7), ("out", 7), ("in", 0), ("in", 1)]
        steps = left + low + [JOIN] + right + deep + [JOIN, JOIN] + [("out", v) for v in range(4)]
        told = tables(steps, Rounds(g))
        self.assertEqual(told[18], {(0, 1, 1, 2, 2): (1, 4)})
        self.assertEqual(told[-1], {})
        self.check(g, None, steps)
        # With the paths laid across there is a round.
        across = graph(8, [(0, 4), (1, 4), (2, 5), (3, 5), (0, 6), (2, 6), (1, 7), (3, 7)])
        right = [LEAF, ("in", 0), ("in", 2), ("in", 6), ("tie", 0, 6), ("tie", 2, 6), ("out", 6),
                 ("in", 1), ("in", 3)]
        deep = [LEAF, ("in", 1), ("in", 3), ("in", 7), ("tie", 1, 7), ("tie", 3, 7), ("out", 7), ("in", 0), ("in", 2)]
        steps = left + low + [JOIN] + right + deep + [JOIN, JOIN] + [("out", v) for v in range(4)]
        self.assertEqual(tables(steps, Rounds(across))[-1], {(1,): (1, 8)})
        self.check(across, None, steps)

    def test_every_small_graph(self):
        chance = random.Random(39)
        for g in all_graphs(4):
            self.check(g, drawn_costs(chance, g), steps_of(g, [(None, list(range(g[0])))]))

    def test_drawn_steps(self):
        chance = random.Random(40)
        for most in (1, 2, 3, 4):
            for g, rows in drawn_worlds(60 + most, 20, 6, 6, most):
                if len(g[1]) <= 9:
                    self.check(g, chance.choice([None, drawn_costs(chance, g)]), drawn_steps(chance, g, rows))

    def test_dense_worlds(self):
        chance = random.Random(41)
        worlds = dense_worlds(61, 40, 4, 4, 4, 1) + dense_worlds(62, 15, 4, 5, 3, 1) + dense_worlds(63, 6, 5, 5, 4, 2)
        for g, rows in worlds:
            self.check(g, drawn_costs(chance, g), drawn_steps(chance, g, rows))

    def test_refusals(self):
        wide = [LEAF] + [("in", v) for v in range(5)] + [("out", v) for v in range(5)]
        for asked in (tables, trail):
            check_refused(self, TooWide, lambda steps: asked(steps, Rounds((5, []))), wide)
            check_refused(self, NoSteps, lambda steps: asked(steps, Rounds((5, []))), wide[:-1])
            check_refused(self, NoSteps, lambda steps: asked(steps, Rounds(THREE)), AROUND[:5] + AROUND[6:])


class Answers(unittest.TestCase):
    def check(self, g, costs, tree):
        turns = all_turns(g)
        told = answer(tree, Rounds(g, costs))
        if not turns:
            self.assertEqual(told, (0, None, None))
            return
        best = min(cost_of(g, costs, turn) for turn in turns)
        self.assertEqual(told[:2], (len(turns), best), (g, tree))
        self.assertIn(told[2], turns)
        self.assertEqual(cost_of(g, costs, told[2]), best)

    def test_few_places(self):
        self.assertEqual(answer([(None, [])], Rounds((0, []))), (0, None, None))
        self.assertEqual(answer([(None, [0])], Rounds((1, []))), (0, None, None))
        self.assertEqual(answer([(None, [0, 1])], Rounds((2, [(0, 1)]))), (0, None, None))
        self.assertEqual(answer([(None, [0, 1])], Rounds((2, []))), (0, None, None))
        self.assertEqual(answer([(None, [0, 1, 2])], Rounds(THREE, [1, 2, 4])), (1, 7, [0, 1, 2]))
        self.assertEqual(answer([(None, [0, 1, 2])], Rounds((3, THREE[1][:2]))), (0, None, None))

    def test_told_cases(self):
        four = (4, all_pairs(4))
        self.assertEqual(answer([(None, [0, 1, 2, 3])], Rounds(four, [9, 1, 1, 1, 1, 9])), (3, 4, [0, 2, 1, 3]))
        self.assertEqual(answer([(None, [0, 1, 2, 3])], Rounds(four, [1, 9, 1, 1, 9, 1])), (3, 4, [0, 1, 2, 3]))
        ring = graph(10, [(v, (v + 1) % 10) for v in range(10)])
        self.assertEqual(answer(least_tree(ring), Rounds(ring)), (1, 10, list(range(10))))
        self.assertEqual(answer(least_tree(ring), Rounds(ring, [MOST] * 10)), (1, 10 * MOST, list(range(10))))
        self.assertEqual(answer(least_tree(ring), Rounds(ring, [0] * 10)), (1, 0, list(range(10))))
        wheel = graph(6, [(0, v) for v in range(1, 6)] + [(v, v % 5 + 1) for v in range(1, 6)])
        self.assertEqual(answer(least_tree(wheel), Rounds(wheel))[:2], (5, 6))

    def test_against_all_turns_of_the_places(self):
        chance = random.Random(44)
        for g in all_graphs(4) + [(5, all_pairs(5)[:k]) for k in range(11)] + [(5, all_pairs(5)[k:]) for k in range(9)]:
            turns = [turn for turn in all_orders(g[0]) if len(turn) > 2 and turn[0] == 0 and turn[1] < turn[-1]
                     and all(are_tied(g, a, b) for a, b in zip(turn, turn[1:] + turn[:1]))]
            self.assertEqual(sorted(all_turns(g)), sorted(turns))
            costs = drawn_costs(chance, g)
            if least_width(g) <= 3:
                self.check(g, costs, least_tree(g))
                check_answer(self, SlowRounds(g, costs), Rounds(g, costs), g, least_tree(g))

    def test_greater_graphs(self):
        chance = random.Random(45)
        for g in mixed_graphs() + great_graphs():
            if least_width(g) <= 3:
                tree = least_tree(g)
                self.check(g, drawn_costs(chance, g), rooted(tree, len(tree) - 1))

    def test_many_rounds(self):
        chance = random.Random(46)
        for g, tree in dense_worlds(64, 25, 4, 9, 4, 3) + dense_worlds(65, 25, 3, 10, 3, 1):
            self.check(g, chance.choice([None, drawn_costs(chance, g)]), tree)

    def test_each_tree_gives_the_same(self):
        chance = random.Random(47)
        for g, tree in dense_worlds(66, 15, 4, 10, 4, 4):
            question = Rounds(g, drawn_costs(chance, g))
            trees = [tree, least_tree(g), rooted(tree, len(tree) - 1), tree_of(g, [v for v in range(g[0])])]
            told = [answer(some, question) for some in trees if max(len(bag) for up, bag in some) <= 4]
            self.assertEqual([one[:2] for one in told], [told[0][:2]] * len(told))
            self.assertEqual(answer(tree, question), told[0])


class Questions(unittest.TestCase):
    def test_the_base(self):
        self.assertIsInstance(Rounds((1, [])), Question)
        self.assertFalse(isinstance(Rounds((1, [])), (Colours, Apart, Watch, Links)))
        self.assertFalse(isinstance(Links((1, []), [0]), Rounds))
        self.assertEqual(answer([(None, [0, 1, 2])], Rounds(graph=THREE, costs=[1, 1, 1])), (1, 3, [0, 1, 2]))
        self.assertEqual(answer([(None, [0, 1, 2])], Rounds(THREE, None)), (1, 3, [0, 1, 2]))

    def test_no_weights(self):
        for n in (0, 1, 3, 5):
            g = graph(n, all_pairs(n))
            for costs in wrong_amounts(len(g[1])):
                check_refused(self, NoWeights, Rounds, g, costs)
            for costs in ([0] * len(g[1]), [MOST] * len(g[1]), None):
                self.assertIsInstance(Rounds(g, costs), Question)

    def test_wrong_trees(self):
        g = (6, [(0, 1)])
        five = [(None, [0, 1]), (0, [0, 1, 2, 3, 4]), (1, [5])]
        check_refused(self, TooWide, lambda rows: answer(rows, Rounds(g)), five)
        for rows in ([], five[:2], five + [(2, [0])], [(1, [0, 1])] + five[1:], five + [(7, [])]):
            check_refused(self, NoTree, lambda rows: answer(rows, Rounds(g)), rows)


if __name__ == "__main__":
    unittest.main()
