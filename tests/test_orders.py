import itertools
import unittest

from bagwood.bags import fault, width
from bagwood.errors import NoOrder, NoPlace, NoTree
from bagwood.graphs import graph
from bagwood.orders import filled, is_perfect, later, order_of, order_width, reached, tree_of
from tests.helper import (BIG, PETERSEN, all_graphs, all_orders, all_pairs, are_tied, bad_orders, check_refused,
                          great_graphs, has_way, mixed_graphs, slow_later, slow_width, small_trees, some_orders,
                          subsets)

TAKING = (later, order_width, filled, is_perfect, tree_of)
PATH = graph(4, [(0, 1), (1, 2), (2, 3)])
RING = graph(4, [(0, 1), (1, 2), (2, 3), (0, 3)])


def each_order():
    """Every order of every graph of at most four places, and some of greater ones."""
    for g in all_graphs(4):
        for order in all_orders(g[0]):
            yield g, order
    for g in mixed_graphs() + great_graphs():
        for order in some_orders(g[0], 10):
            yield g, order


def slow_reached(g, gone, v):
    """Point 17, word by word."""
    return [u for u in range(g[0]) if u != v and u not in gone
            and (are_tied(g, u, v) or has_way(g, list(gone) + [u, v], v, u))]


class Later(unittest.TestCase):
    def test_each_order(self):
        for g, order in each_order():
            self.assertEqual(later(g, order), slow_later(g, order)[0], (g, order))

    def test_by_hand(self):
        self.assertEqual(later(PATH, [0, 1, 2, 3]), [[1], [2], [3], []])
        self.assertEqual(later(PATH, [1, 2, 0, 3]), [[0, 2], [0, 3], [3], []])
        self.assertEqual(later(RING, [0, 1, 2, 3]), [[1, 3], [2, 3], [3], []])
        self.assertEqual(later(graph(3, []), [2, 0, 1]), [[], [], []])

    def test_without_places(self):
        self.assertEqual(later(graph(0, []), []), [])

    def test_star_from_its_middle(self):
        star = graph(10, [(9, v) for v in range(9)])
        self.assertEqual(later(star, [9] + list(range(9))), [list(range(k, 9)) for k in range(10)])
        self.assertEqual(later(star, list(range(10))), [[9]] * 9 + [[]])


class Width(unittest.TestCase):
    def test_each_order(self):
        for g, order in each_order():
            self.assertEqual(order_width(g, order), slow_width(g, order), (g, order))

    def test_edges(self):
        self.assertEqual(order_width(graph(0, []), []), -1)
        for n in range(1, 11):
            self.assertEqual(order_width(graph(n, []), list(range(n))), 0)
            self.assertEqual(order_width(graph(n, all_pairs(n)), list(range(n))), n - 1)

    def test_orders_of_one_graph_differ(self):
        star = graph(10, [(9, v) for v in range(9)])
        self.assertEqual(order_width(star, list(range(10))), 1)
        self.assertEqual(order_width(star, list(range(9, -1, -1))), 9)


class NoOrders(unittest.TestCase):
    def test_each_way_to_be_none(self):
        for g in great_graphs() + [graph(n, all_pairs(n)[::2]) for n in range(10)]:
            for order in bad_orders(g[0]):
                for asked in TAKING:
                    check_refused(self, NoOrder, asked, g, order)

    def test_every_short_list(self):
        for n in range(4):
            g = graph(n, all_pairs(n))
            for size in range(5):
                for order in itertools.product(range(-1, n + 2), repeat=size):
                    for asked in TAKING:
                        if sorted(order) == list(range(n)):
                            asked(g, list(order))
                        else:
                            check_refused(self, NoOrder, asked, g, list(order))


class Reached(unittest.TestCase):
    def test_every_small_graph(self):
        for g in all_graphs(4):
            for v in range(g[0]):
                for gone in subsets(u for u in range(g[0]) if u != v):
                    self.assertEqual(reached(g, gone, v), slow_reached(g, gone, v), (g, gone, v))

    def test_later_places_in_each_order_that_begins_so(self):
        for g in all_graphs(4):
            for order in all_orders(g[0]):
                for k, v in enumerate(order):
                    self.assertEqual(reached(g, sorted(order[:k]), v), slow_later(g, order)[0][k])

    def test_great_graphs(self):
        for g in great_graphs():
            for gone in ([], [0], [1, 2, 3], [0, 2, 4, 6, 8], [0, 1, 2, 4, 5, 7, 8, 9]):
                for v in [u for u in range(10) if u not in gone]:
                    self.assertEqual(reached(g, gone, v), slow_reached(g, gone, v), (g, gone, v))

    def test_by_hand(self):
        path = graph(10, [(v, v + 1) for v in range(9)])
        self.assertEqual(reached(path, [], 4), [3, 5])
        self.assertEqual(reached(path, [5, 6, 7], 4), [3, 8])
        self.assertEqual(reached(path, [6, 7], 4), [3, 5])
        self.assertEqual(reached(path, list(range(1, 10)), 0), [])
        self.assertEqual(reached(graph(1, []), [], 0), [])
        self.assertEqual(reached(graph(3, [(0, 1)]), [0], 2), [])

    def test_no_place(self):
        for n in range(11):
            for pairs in ([], all_pairs(n)):
                for gone in ([], list(range(n)), list(range(0, n, 2))):
                    for v in [-1, -n, n, n + 1, BIG, -BIG] + gone:
                        if v not in range(n) or v in gone:
                            check_refused(self, NoPlace, reached, graph(n, pairs), gone, v)


class Filled(unittest.TestCase):
    def test_each_order(self):
        for g, order in each_order():
            self.assertEqual(filled(g, order), (g[0], slow_later(g, order)[1]), (g, order))

    def test_perfect_where_no_tie_comes(self):
        for g, order in each_order():
            self.assertIs(is_perfect(g, order), slow_later(g, order)[1] == g[1], (g, order))

    def test_by_hand(self):
        self.assertEqual(filled(RING, [0, 1, 2, 3]), (4, [(0, 1), (0, 3), (1, 2), (1, 3), (2, 3)]))
        self.assertEqual(filled(PATH, [1, 2, 0, 3]), (4, [(0, 1), (0, 2), (0, 3), (1, 2), (2, 3)]))
        self.assertEqual(filled(graph(0, []), []), (0, []))

    def test_perfect_and_not(self):
        self.assertIs(is_perfect(PATH, [0, 1, 2, 3]), True)
        self.assertIs(is_perfect(PATH, [0, 3, 2, 1]), True)
        self.assertIs(is_perfect(PATH, [1, 0, 2, 3]), False)
        self.assertIs(is_perfect(graph(0, []), []), True)
        for order in all_orders(4):
            self.assertIs(is_perfect(RING, order), False)
            self.assertIs(is_perfect(graph(4, all_pairs(4)), order), True)
            self.assertIs(is_perfect(graph(4, []), order), True)

    def test_filled_is_perfect(self):
        for g, order in each_order():
            self.assertIs(is_perfect(filled(g, order), order), True)


class TreeOf(unittest.TestCase):
    def check(self, g, order):
        """Point 19, word by word."""
        told = tree_of(g, order)
        n = g[0]
        behind = slow_later(g, order)[0]
        self.assertEqual(len(told), max(n, 1))
        for k in range(n):
            place = order[n - 1 - k]
            after = behind[n - 1 - k]
            self.assertIsInstance(told[k], tuple)
            self.assertEqual(told[k][1], sorted([place] + after))
            first = [v for v in order if v in after][:1]
            row = [j for j in range(n) if order[n - 1 - j] in first]
            self.assertEqual(told[k][0], None if k == 0 else (row + [0])[0], (g, order))
        self.assertIsNone(fault(g, told), (g, order))
        self.assertEqual(width(told), slow_width(g, order))

    def test_each_order(self):
        for g, order in each_order():
            self.check(g, order)

    def test_by_hand(self):
        self.assertEqual(tree_of(graph(0, []), []), [(None, [])])
        self.assertEqual(tree_of(graph(1, []), [0]), [(None, [0])])
        self.assertEqual(tree_of(graph(3, []), [1, 2, 0]), [(None, [0]), (0, [2]), (0, [1])])
        self.assertEqual(tree_of(PATH, [0, 1, 2, 3]), [(None, [3]), (0, [2, 3]), (1, [1, 2]), (2, [0, 1])])
        self.assertEqual(tree_of(PATH, [1, 0, 3, 2]), [(None, [2]), (0, [2, 3]), (0, [0, 2]), (2, [0, 1, 2])])
        self.assertEqual(tree_of(RING, [0, 2, 3, 1]), [(None, [1]), (0, [1, 3]), (1, [1, 2, 3]), (1, [0, 1, 3])])


class OrderOf(unittest.TestCase):
    def check(self, g, tree):
        told = order_of(g, tree)
        first = [min(k for k, row in enumerate(tree) if v in row[1]) for v in range(g[0])]
        self.assertEqual(told, sorted(range(g[0]), key=lambda v: (-first[v], v)), (g, tree))
        self.assertLessEqual(slow_width(g, told), width(tree), (g, tree))

    def test_every_small_tree(self):
        trees = small_trees(3, 3)
        for g in all_graphs(3):
            for tree in trees:
                if fault(g, tree) is None:
                    self.check(g, tree)
                else:
                    check_refused(self, NoTree, order_of, g, tree)

    def test_trees_of_orders(self):
        for g, order in each_order():
            self.check(g, tree_of(g, order))

    def test_one_row(self):
        self.assertEqual(order_of(graph(0, []), [(None, [])]), [])
        for n in range(11):
            self.assertEqual(order_of(graph(n, all_pairs(n)), [(None, list(range(n)))]), list(range(n)))

    def test_by_hand(self):
        tree = [(None, [1, 2]), (0, [2, 3]), (0, [0, 1])]
        self.assertEqual(order_of(PATH, tree), [0, 3, 1, 2])
        self.assertEqual(order_of(graph(4, []), [(None, []), (0, [2, 3]), (0, [0, 1]), (0, [])]), [0, 1, 2, 3])

    def test_four_hundred_rows(self):
        tree = [(None, [5])] + [(k - 1, [5]) for k in range(1, 390)]
        tree += [(389, [v]) for v in range(10) if v != 5] + [(0, [5])]
        self.assertEqual(order_of(graph(10, []), tree), [9, 8, 7, 6, 4, 3, 2, 1, 0, 5])

    def test_no_tree(self):
        g = graph(10, PETERSEN)
        good = tree_of(g, list(range(10)))
        self.check(g, good)
        bad = [[], good[1:], good[:-1], [(0, good[0][1])] + good[1:], good + [(len(good), [0])], good + [(-1, [0])],
               good + [(None, [0])], good + [(BIG, [0])], good + [(-BIG, [0])], good + [(0, [10])], good + [(0, [-1])],
               good + [(0, [1, 0])], good + [(0, [0, 0])], good + [(0, [BIG])], good + [(0, [-BIG])],
               [(None, [])], [(None, list(range(9)))], [(None, list(range(11)))],
               [(None, list(range(9))), (0, [9])], [(None, list(range(10))), (0, []), (1, [0])]]
        for rows in bad:
            check_refused(self, NoTree, order_of, g, rows)
        check_refused(self, NoTree, order_of, graph(0, []), [])
        check_refused(self, NoTree, order_of, graph(0, []), [(None, [0])])
        check_refused(self, NoTree, order_of, graph(1, []), [(None, [])])


if __name__ == "__main__":
    unittest.main()
