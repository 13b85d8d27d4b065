import itertools
import unittest

from bagwood.bags import fault
from bagwood.graphs import graph
from bagwood.tidy import tidied
from tests.helper import all_graphs, neighbour_pairs, row_is_as_told, rows_of, small_trees, subsets, way


def is_together(rows):
    for v in sorted(set(v for up, places in rows for v in places)):
        holding = [k for k, row in enumerate(rows) if v in row[1]]
        if not all(v in rows[i][1] for j, k in itertools.combinations(holding, 2) for i in way(rows, j, k)):
            return False
    return True


def is_within(one, other):
    return set(one) <= set(other)


class Tidied(unittest.TestCase):
    def check(self, tree):
        """Point 15, word by word."""
        told = tidied(tree)
        self.assertIsInstance(told, list)
        for k, row in enumerate(told):
            self.assertIsInstance(row, tuple)
            self.assertTrue(row_is_as_told(10, told, k), (tree, told))
        self.assertTrue(is_together(told), (tree, told))
        old_bags = [places for up, places in tree]
        new_bags = [places for up, places in told]
        for bag in new_bags:
            self.assertIn(bag, old_bags, (tree, told))
        for bag in old_bags:
            self.assertTrue(any(is_within(bag, other) for other in new_bags), (tree, told))
        for j, k in neighbour_pairs(told):
            self.assertFalse(is_within(new_bags[j], new_bags[k]), (tree, told))
            self.assertFalse(is_within(new_bags[k], new_bags[j]), (tree, told))
        held = set(v for bag in new_bags for v in bag)
        self.assertTrue(1 <= len(told) <= max(1, len(held)), (tree, told))
        return told

    def test_one_row(self):
        self.assertEqual(tidied([(None, [])]), [(None, [])])
        for places in subsets(range(4)):
            self.assertEqual(self.check([(None, places)]), [(None, places)])

    def test_no_places(self):
        for size in range(1, 6):
            for tree in rows_of([[]] * size):
                self.assertEqual(tidied(tree), [(None, [])])

    def test_every_tree_of_three_rows(self):
        for tree in small_trees(3, 3):
            if is_together(tree):
                self.check(tree)

    def test_every_tree_of_five_rows_and_two_places(self):
        for tree in small_trees(2, 5):
            if is_together(tree):
                self.check(tree)

    def test_every_tree_of_four_chosen_bags(self):
        for bags in itertools.product([[], [0], [0, 1], [1, 2], [0, 1, 2], [2, 3]], repeat=4):
            for tree in rows_of(bags):
                if is_together(tree):
                    self.check(tree)

    def test_a_tree_of_bags_of_the_same_graphs(self):
        trees = [tree for tree in small_trees(3, 3) if is_together(tree)]
        for g in all_graphs(3):
            for tree in trees:
                if fault(g, tree) is None:
                    self.assertIsNone(fault(g, tidied(tree)), (g, tree))

    def test_tidy_already(self):
        row = [(None, [0, 1])] + [(k - 1, [k, k + 1]) for k in range(1, 9)]
        self.assertEqual(sorted(places for up, places in self.check(row)), sorted(places for up, places in row))
        star = [(None, [0, 1, 2])] + [(0, [k, k + 3]) for k in range(3)]
        self.assertEqual(len(self.check(star)), 4)

    def test_bags_that_grow_along_a_way(self):
        rising = [(None, [])] + [(k, list(range(k + 1))) for k in range(10)]
        self.assertEqual(self.check(rising), [(None, list(range(10)))])
        falling = [(None, list(range(10)))] + [(k, list(range(9 - k))) for k in range(10)]
        self.assertEqual(self.check(falling), [(None, list(range(10)))])

    def test_small_bags_in_the_midst(self):
        tree = [(None, [1]), (0, [0, 1]), (0, [1, 2]), (1, [0]), (3, [0, 4]), (2, []), (5, [3]), (6, [3, 5]), (2, [2])]
        told = self.check(tree)
        self.assertEqual(sorted(places for up, places in told), [[0, 1], [0, 4], [1, 2], [3, 5]])
        self.assertEqual(len(self.check([(None, []), (0, [0]), (0, [1]), (0, [2])])), 3)

    def test_alike_bags(self):
        for tree in rows_of([[0, 1]] * 5):
            self.assertEqual(self.check(tree), [(None, [0, 1])])

    def test_four_hundred_rows(self):
        # Each tie of the way through all places comes in forty rows, one place of it ahead of both.
        bags = [[k // 40, k // 40 + 1] if k % 40 > 20 else [k // 40] for k in range(360)] + [[9]] * 40
        tree = [(k - 1 if k else None, bag) for k, bag in enumerate(bags)]
        told = self.check(tree)
        self.assertEqual(sorted(places for up, places in told), [[k, k + 1] for k in range(9)])
        self.assertIsNone(fault(graph(10, [(v, v + 1) for v in range(9)]), told))
        spread = [(None, list(range(5)))] + [(0, [k % 5, 5 + k % 5] if k < 6 else [k % 5]) for k in range(1, 400)]
        self.assertEqual(len(self.check(spread)), 6)


if __name__ == "__main__":
    unittest.main()
