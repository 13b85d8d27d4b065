import itertools
import unittest

from bagwood.bags import fault, width
from bagwood.graphs import graph
from bagwood.least import costs, least_order, least_tree, least_width, start
from bagwood.orders import reached
from tests.helper import (PETERSEN, all_graphs, all_orders, all_pairs, great_graphs, mixed_graphs, slow_later,
                          slow_width, small_trees, subsets)


def between(left, right):
    return [(a, b) for a in left for b in right]


def cost_of_start(g, order):
    """The most later places of one of these, taken out ahead of all others."""
    rest = [v for v in range(g[0]) if v not in order]
    return max([len(behind) for behind in slow_later(g, order + rest)[0][:len(order)]] + [-1])


def slow_cost(g, places):
    return min(cost_of_start(g, list(order)) for order in itertools.permutations(places))


def set_at(spot):
    return [v for v in range(10) if spot // 2 ** v % 2]


def known_widths():
    """Graphs with the width that is known of them."""
    told = [(0, [], -1)]
    for n in range(1, 11):
        path = [(v, v + 1) for v in range(n - 1)]
        told += [(n, [], 0), (n, all_pairs(n), n - 1)]
        if n > 1:
            told += [(n, path, 1), (n, [(0, v) for v in range(1, n)], 1)]
        if n > 2:
            told += [(n, path + [(0, n - 1)], 2), (n, all_pairs(n)[1:], n - 2)]
        if n > 3:
            wheel = path[1:] + [(1, n - 1)] + [(0, v) for v in range(1, n)]
            told.append((n, wheel, 3))
    for side in range(1, 6):
        told.append((10, between(range(side), range(side, 10)), side))
    grid = [(v, v + 1) for v in range(9) if v % 3 < 2] + [(v, v + 3) for v in range(6)]
    told += [(9, grid, 3), (10, grid, 3), (10, PETERSEN, 4)]
    # Two pieces, the wider one behind; all but the ties of five couples.
    told.append((10, [(0, 1), (1, 2)] + list(itertools.combinations(range(4, 9), 2)), 4))
    told.append((10, [pair for pair in all_pairs(10) if pair[0] // 2 != pair[1] // 2], 8))
    return told


class Costs(unittest.TestCase):
    def check(self, g):
        told = costs(g)
        self.assertIsInstance(told, list)
        self.assertEqual(told, [slow_cost(g, set_at(spot)) for spot in range(2 ** g[0])], g)

    def test_no_places(self):
        self.assertEqual(costs(graph(0, [])), [-1])

    def test_every_small_graph_through_all_orders(self):
        for g in all_graphs(4):
            self.check(g)

    def test_some_of_five_and_six_places_through_all_orders(self):
        for g in mixed_graphs():
            if g[0] in (5, 6):
                self.check(g)

    def test_by_hand(self):
        self.assertEqual(costs(graph(1, [])), [-1, 0])
        self.assertEqual(costs(graph(2, [(0, 1)])), [-1, 1, 1, 1])
        self.assertEqual(costs(graph(3, [(0, 1), (1, 2)])), [-1, 1, 2, 1, 1, 1, 1, 1])
        self.assertEqual(costs(graph(3, [(0, 2)])), [-1, 1, 0, 1, 1, 1, 1, 1])

    def test_great_graphs_place_by_place(self):
        for g in great_graphs():
            told = costs(g)
            self.assertEqual((len(told), told[0]), (1024, -1))
            for spot in range(1, 1024):
                ways = []
                for v in set_at(spot):
                    gone = [u for u in set_at(spot) if u != v]
                    ways.append(max(told[spot - 2 ** v], len(reached(g, gone, v))))
                self.assertEqual(told[spot], min(ways), (g, spot))

    def test_no_and_all_ties(self):
        for n in range(1, 11):
            self.assertEqual(costs(graph(n, [])), [-1] + [0] * (2 ** n - 1))
            self.assertEqual(costs(graph(n, all_pairs(n))), [-1] + [n - 1] * (2 ** n - 1))


class Start(unittest.TestCase):
    def check(self, g, places, cost):
        told = start(g, places)
        self.assertIsInstance(told, list)
        self.assertEqual(sorted(told), places)
        self.assertLessEqual(cost_of_start(g, told), cost, (g, places, told))

    def test_every_set_of_every_small_graph(self):
        for g in all_graphs(4):
            for places in subsets(range(g[0])):
                self.check(g, places, slow_cost(g, places))

    def test_sets_of_great_graphs(self):
        for g in great_graphs():
            told = costs(g)
            for spot in range(0, 1024, 31):
                self.check(g, set_at(spot), told[spot])

    def test_edges(self):
        self.assertEqual(start(graph(0, []), []), [])
        self.assertEqual(start(graph(1, []), []), [])
        self.assertEqual(start(graph(1, []), [0]), [0])
        self.assertEqual(start(graph(10, all_pairs(10)), []), [])
        self.assertEqual(start(graph(10, PETERSEN), [7]), [7])
        # Only from its ends is the way taken out with one later place each.
        self.assertEqual(start(graph(10, [(v, v + 1) for v in range(9)]), [0, 1, 2, 3]), [0, 1, 2, 3])


class Least(unittest.TestCase):
    def check(self, g, least):
        self.assertEqual(least_width(g), least, g)
        order = least_order(g)
        self.assertIsInstance(order, list)
        self.assertEqual(sorted(order), list(range(g[0])))
        self.assertEqual(slow_width(g, order), least, g)
        tree = least_tree(g)
        self.assertIsNone(fault(g, tree), (g, tree))
        self.assertEqual(width(tree), least, (g, tree))
        self.assertLessEqual(len(tree), max(g[0], 1), (g, tree))

    def test_every_small_graph_through_all_orders(self):
        for g in all_graphs(4):
            self.check(g, min(slow_width(g, order) for order in all_orders(g[0])))

    def test_greater_graphs_through_all_orders(self):
        for g in mixed_graphs():
            if g[0] in (5, 6):
                self.check(g, min(slow_width(g, order) for order in all_orders(g[0])))

    def test_every_small_graph_through_all_trees(self):
        for n in range(4):
            trees = small_trees(n, max(n, 1))
            for g in all_graphs(n):
                if g[0] == n:
                    self.check(g, min(width(tree) for tree in trees if fault(g, tree) is None))

    def test_known_widths(self):
        for n, pairs, least in known_widths():
            self.check(graph(n, pairs), least)

    def test_mixed_graphs(self):
        for g in mixed_graphs():
            self.check(g, least_width(g))

    def test_without_places(self):
        self.assertEqual(least_width((0, [])), -1)
        self.assertEqual(least_order((0, [])), [])
        self.assertEqual(least_tree((0, [])), [(None, [])])


if __name__ == "__main__":
    unittest.main()
