import itertools
import random
import unittest

from bagwood.asks import Apart, Colours, Question, Watch
from bagwood.bags import rooted
from bagwood.errors import NoPlace, NoSteps, NoTree, NoWeights, TooWide
from bagwood.graphs import graph
from bagwood.least import least_tree, least_width
from bagwood.links import Links
from bagwood.orders import tree_of
from bagwood.steps import steps_of
from bagwood.tables import answer, tables, trail
from tests.helper import (BIG, SlowLinks, all_graphs, all_pairs, check_answer, check_refused, check_tables,
                          dense_worlds, drawn_steps, drawn_worlds, great_graphs, grouped, mixed_graphs, subsets,
                          wrong_amounts)

LEAF, JOIN = ("leaf",), ("join",)
MOST = 10 ** 30 - 1
ONE_TIE = (2, [(0, 1)])
TIED = [LEAF, ("in", 0), ("in", 1), ("tie", 0, 1), ("out", 0), ("out", 1)]


def drawn_costs(chance, g):
    return [chance.choice([0, 1, 2, 3, 7, MOST, MOST - 1]) for tie in g[1]]


def some_told(chance, n):
    return chance.sample(range(n), chance.randint(1, min(n, chance.choice([1, 2, 3, 10]))))


def trees_with_all(g, places):
    """How many trees there are that have just these places: a determinant, worked out in whole numbers."""
    ties = [tie for tie in g[1] if set(tie) <= set(places)]
    grid = [[sum(v in tie for tie in ties) if u == v else -ties.count((min(u, v), max(u, v))) for v in places[1:]]
            for u in places[1:]]
    sign, before = 1, 1
    for k in range(len(grid)):
        turn = [j for j in range(k, len(grid)) if grid[j][k]]
        if not turn:
            return 0
        if turn[0] != k:
            grid[k], grid[turn[0]] = grid[turn[0]], grid[k]
            sign = -sign
        for i in range(k + 1, len(grid)):
            for j in range(k + 1, len(grid)):
                grid[i][j] = (grid[i][j] * grid[k][k] - grid[i][k] * grid[k][j]) // before
        before = grid[k][k]
    return sign * before


def cheapest_with_all(g, costs, places):
    """The least amount of a tree that has just these places, or None: the cheapest ties first."""
    amount = 0
    taken = []
    for cost, tie in sorted(zip(costs, g[1])):
        if set(tie) <= set(places) and len(grouped(places, taken + [tie])) < len(grouped(places, taken)):
            taken.append(tie)
            amount += cost
    return amount if len(grouped(places, taken)) == 1 else None


class Tables(unittest.TestCase):
    def check(self, g, told, costs, steps):
        check_tables(self, SlowLinks(g, told, costs), Links(g, told, costs), g, steps)

    def test_told_cases(self):
        self.assertEqual(tables(TIED, Links(ONE_TIE, [0], [5])), [
            {(0,): (1, 0)}, {(0, 1): (1, 0)}, {(0, 1, 0): (1, 0), (0, 1, 2): (1, 0)},
            {(0, 1, 0): (1, 0), (0, 1, 2): (1, 0), (0, 1, 1): (1, 5)},
            {(1, 0): (1, 0), (0, 1): (1, 5)}, {(1,): (2, 0)}])
        self.assertEqual(tables(TIED, Links(ONE_TIE, [1], [5])), [
            {(0,): (1, 0)}, {(0, 0): (1, 0), (0, 1): (1, 0)}, {(0, 0, 1): (1, 0), (0, 1, 2): (1, 0)},
            {(0, 0, 1): (1, 0), (0, 1, 2): (1, 0), (0, 1, 1): (1, 5)},
            {(0, 1): (2, 0)}, {(1,): (2, 0)}])
        self.assertEqual(trail(TIED, Links(ONE_TIE, [1, 0], [5])),
                         [(0,), (0, 1), (0, 1, 2), (0, 1, 1), (0, 1), (1,)])

    def test_closed(self):
        # A told place that comes in behind a closed part-thing ends it; another one stays outside.
        steps = [LEAF, ("in", 0), ("out", 0), ("in", 1), ("out", 1)]
        self.assertEqual(tables(steps, Links((2, []), [0])),
                         [{(0,): (1, 0)}, {(0, 1): (1, 0)}, {(1,): (1, 0)}, {(1, 0): (1, 0)}, {(1,): (1, 0)}])
        self.assertEqual(tables(steps, Links((2, []), [1, 0])),
                         [{(0,): (1, 0)}, {(0, 1): (1, 0)}, {(1,): (1, 0)}, {}, {}])
        self.assertIsNone(trail(steps, Links((2, []), [1, 0])))
        self.assertEqual(tables(steps, Links((2, []), [1]))[2:],
                         [{(0,): (1, 0), (1,): (1, 0)}, {(0, 1): (1, 0)}, {(1,): (1, 0)}])

    def test_a_join_of_bags_without_places(self):
        steps = [LEAF, ("in", 0), ("out", 0), LEAF, ("in", 1), ("out", 1), JOIN]
        self.assertEqual(tables(steps, Links((2, []), [0]))[-1], {(1,): (1, 0)})
        self.assertEqual(tables(steps, Links((2, []), [1]))[-1], {(1,): (1, 0)})
        self.assertEqual(tables(steps, Links((2, []), [1, 0]))[-1], {})
        for told in ([0], [1], [0, 1]):
            self.check((2, []), told, None, steps)
            self.check((2, []), told, None, steps + [LEAF, JOIN])

    def test_a_ring_from_two_sides(self):
        ins = [LEAF] + [("in", v) for v in range(3)]
        steps = ins + [("tie", 0, 1)] + ins + [("tie", 0, 2), ("tie", 1, 2), JOIN] + [("out", v) for v in range(3)]
        g = (3, all_pairs(3))
        for told in ([0], [1, 2], [0, 1, 2]):
            self.check(g, told, [1, 2, 4], steps)

    def test_every_small_graph(self):
        chance = random.Random(37)
        for g in all_graphs(4):
            for told in [some_told(chance, g[0])] if g[0] else []:
                self.check(g, told, drawn_costs(chance, g), steps_of(g, [(None, list(range(g[0])))]))

    def test_drawn_steps(self):
        chance = random.Random(38)
        for most in (1, 2, 3, 4):
            for g, rows in drawn_worlds(80 + most, 25, 6, 6, most):
                if g[0] and len(g[1]) <= 9:
                    costs = chance.choice([None, drawn_costs(chance, g)])
                    self.check(g, some_told(chance, g[0]), costs, drawn_steps(chance, g, rows))

    def test_dense_worlds(self):
        chance = random.Random(39)
        for g, rows in dense_worlds(90, 12, 4, 4, 4, 1) + dense_worlds(91, 5, 5, 5, 3, 2):
            self.check(g, some_told(chance, g[0]), drawn_costs(chance, g), drawn_steps(chance, g, rows))
        g, rows = dense_worlds(92, 1, 5, 5, 4, 1)[0]
        self.check(g, some_told(chance, g[0]), drawn_costs(chance, g), drawn_steps(chance, g, rows))

    def test_refusals(self):
        wide = [LEAF] + [("in", v) for v in range(5)] + [("out", v) for v in range(5)]
        for asked in (tables, trail):
            check_refused(self, TooWide, lambda steps: asked(steps, Links((5, []), [0])), wide)
            check_refused(self, NoSteps, lambda steps: asked(steps, Links((5, []), [0])), wide[:-1])
            check_refused(self, NoSteps, lambda steps: asked(steps, Links(ONE_TIE, [0])), TIED[:3] + TIED[4:])


class Answers(unittest.TestCase):
    def check(self, g, told, costs, tree):
        many, best, thing = check_answer(self, SlowLinks(g, told, costs), Links(g, told, costs), g, tree)
        if many:
            self.check_tree(g, told, costs, best, thing)

    def check_tree(self, g, told, costs, best, ties):
        self.assertEqual(ties, [tie for tie in g[1] if tie in ties])
        places = sorted(set(told) | set(v for tie in ties for v in tie))
        self.assertEqual(len(grouped(places, ties)), 1)
        self.assertEqual(len(ties), len(places) - 1)
        self.assertEqual(sum(1 if costs is None else costs[g[1].index(tie)] for tie in ties), best)

    def test_told_cases(self):
        self.assertEqual(answer([(None, [0])], Links((1, []), [0])), (1, 0, []))
        self.assertEqual(answer([(None, [0, 1])], Links(ONE_TIE, [1, 0], [7])), (1, 7, [(0, 1)]))
        self.assertEqual(answer([(None, [0, 1])], Links(ONE_TIE, [1])), (2, 0, []))
        ring = graph(4, [(0, 1), (1, 2), (2, 3), (0, 3)])
        tree = [(None, [0, 1, 3]), (0, [1, 2, 3])]
        self.assertEqual(answer(tree, Links(ring, [2, 0], [5, 1, 4, 1])), (6, 2, [(0, 3), (2, 3)]))
        self.assertEqual(answer(tree, Links(ring, [2, 0, 1], [5, 1, 4, 1])), (5, 6, [(0, 3), (1, 2), (2, 3)]))
        self.assertEqual(answer(tree, Links(ring, [3], [5, 1, 4, 1])), (10, 0, []))

    def test_unlike_pieces(self):
        g = graph(4, [(0, 1), (2, 3)])
        tree = [(None, [0, 1]), (0, [2, 3])]
        for told in ([0, 2], [3, 1], [0, 1, 2], [3, 2, 1, 0]):
            self.assertEqual(answer(tree, Links(g, told)), (0, None, None))
        self.assertEqual(answer(tree, Links(g, [3, 2])), (1, 1, [(2, 3)]))

    def test_costs_of_nought_and_of_thirty_figures(self):
        way = (3, [(0, 1), (1, 2)])
        tree = [(None, [0, 1]), (0, [1, 2])]
        self.assertEqual(answer(tree, Links(way, [2, 0], [MOST, MOST])), (1, 2 * MOST, [(0, 1), (1, 2)]))
        self.assertEqual(answer(tree, Links(way, [0, 2], [0, 0])), (1, 0, [(0, 1), (1, 2)]))
        self.assertEqual(answer(tree, Links(way, [0, 2], None)), answer(tree, Links(way, [0, 2], [1, 1])))
        self.assertEqual(answer(tree, Links(way, [0, 1], [0, 0]))[:2], (2, 0))

    def test_every_small_graph_and_all_told_places(self):
        chance = random.Random(41)
        for g in all_graphs(4):
            for told in subsets(range(g[0]))[1:]:
                costs = chance.choice([None, drawn_costs(chance, g)])
                self.check(g, chance.sample(told, len(told)), costs, tree_of(g, list(range(g[0]))))

    def test_the_order_of_the_told_places_is_nothing(self):
        g = graph(5, [(0, 1), (1, 2), (2, 3), (3, 4), (0, 4), (1, 3)])
        costs = [3, 1, 4, 1, 5, 9]
        tree = least_tree(g)
        told = [answer(tree, Links(g, list(some), costs)) for some in itertools.permutations([0, 2, 3])]
        self.assertEqual(told, told[:1] * 6)

    def test_greater_graphs(self):
        chance = random.Random(42)
        for g in mixed_graphs() + great_graphs():
            if 0 < g[0] and len(g[1]) <= 9 and least_width(g) <= 3:
                tree = least_tree(g)
                self.check(g, some_told(chance, g[0]), drawn_costs(chance, g), rooted(tree, len(tree) - 1))

    def test_ten_places_with_many_ties(self):
        chance = random.Random(43)
        for g, tree in dense_worlds(93, 3, 9, 10, 4, 4) + dense_worlds(94, 3, 8, 10, 3, 4):
            told, costs = some_told(chance, g[0]), drawn_costs(chance, g)
            sets = [places for places in subsets(range(g[0])) if set(told) <= set(places)]
            best = [cheapest_with_all(g, costs, places) for places in sets]
            given = answer(tree, Links(g, told, costs))
            self.assertEqual(given[0], sum(trees_with_all(g, places) for places in sets))
            if given[0]:
                self.assertEqual(given[1], min(one for one in best if one is not None))
                self.check_tree(g, told, costs, given[1], given[2])

    def test_each_tree_gives_the_same(self):
        chance = random.Random(44)
        for g, tree in drawn_worlds(44, 30, 10, 20, 4) + dense_worlds(44, 10, 5, 10, 4, 5):
            if g[0]:
                question = Links(g, some_told(chance, g[0]), drawn_costs(chance, g))
                told = [answer(some, question) for some in (tree, least_tree(g), rooted(tree, len(tree) - 1))]
                self.assertEqual([one[:2] for one in told], [told[0][:2]] * 3)
                self.assertEqual(answer(tree, question), told[0])


class Questions(unittest.TestCase):
    def test_the_base(self):
        self.assertIsInstance(Links((1, []), [0]), Question)
        self.assertFalse(isinstance(Links((1, []), [0]), (Colours, Apart, Watch)))
        self.assertEqual(answer([(None, [0])], Links(graph=(1, []), told=[0], costs=[])), (1, 0, []))

    def test_no_place(self):
        wrong = [[], [0, 0], [1, 0, 1], [3], [-1], [0, 3], [3, 0], [0, 1, 2, 3], [0, 1, 2, 0], [BIG], [-BIG],
                 [0, BIG], [-BIG, 1], [2, 1, 1], list(range(400))]
        for told in wrong:
            for costs in (None, [1, 2], [], [1, 2, 3], [-1, 0], [0, 10 ** 30]):
                check_refused(self, NoPlace, Links, (3, [(0, 1), (1, 2)]), told, costs)
        for told in ([], [0], [-1], [BIG]):
            check_refused(self, NoPlace, Links, (0, []), told)
            check_refused(self, NoPlace, Links, (0, []), told, [1])

    def test_no_weights(self):
        for n in (1, 3, 5):
            g = graph(n, all_pairs(n))
            for costs in wrong_amounts(len(g[1])):
                check_refused(self, NoWeights, Links, g, [0], costs)
            for costs in ([0] * len(g[1]), [MOST] * len(g[1]), None):
                self.assertIsInstance(Links(g, [0], costs), Question)
        # As many as there are places are not as many as there are ties.
        check_refused(self, NoWeights, Links, (3, [(0, 1), (1, 2)]), [0], [1, 1, 1])

    def test_wrong_trees(self):
        g = (6, [(0, 1)])
        five = [(None, [0, 1]), (0, [0, 1, 2, 3, 4]), (1, [5])]
        for question in (Links(g, [0]), Links(g, [5, 0, 1])):
            check_refused(self, TooWide, lambda rows: answer(rows, question), five)
            for rows in ([], five[:2], five + [(2, [0])], [(1, [0, 1])] + five[1:], five + [(7, [])]):
                check_refused(self, NoTree, lambda rows: answer(rows, question), rows)


if __name__ == "__main__":
    unittest.main()
