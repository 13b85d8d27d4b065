import itertools
import unittest

from bagwood.bags import fault, meeting, rooted, sides, width
from bagwood.errors import NoBag
from bagwood.graphs import graph, is_joined, touch
from tests.helper import (BIG, all_graphs, all_pairs, check_refused, neighbour_pairs, row_is_as_told, rows_of,
                          small_trees, subsets, way)

PATH = graph(10, [(v, v + 1) for v in range(9)])
ROW = [(None, [0, 1])] + [(k - 1, [k, k + 1]) for k in range(1, 9)]
STAR = graph(10, [(0, v) for v in range(1, 10)])
MANY = [(None, [0])] + [(0, [0, v]) for v in range(1, 10)]
MIXED = [(None, [0, 1]), (0, [1, 2]), (0, [0, 3]), (1, [2, 4]), (1, [1, 2, 5]), (2, [3]), (3, [])]


def right_fault(g, rows):
    """The fault by the words of points 9 and 10, looked for from all sides."""
    for k in range(max(len(rows), 1)):
        if not rows or not row_is_as_told(g[0], rows, k):
            return ("row", k)
    for v in range(g[0]):
        if not [k for k, row in enumerate(rows) if v in row[1]]:
            return ("place", v)
    for a, b in g[1]:
        if not [k for k, row in enumerate(rows) if {a, b} <= set(row[1])]:
            return ("tie", a, b)
    for v in range(g[0]):
        holding = [k for k, row in enumerate(rows) if v in row[1]]
        if not all(v in rows[i][1] for j in holding for k in holding for i in way(rows, j, k)):
            j = holding[0]
            return ("apart", v, j, [k for k in holding if k > j and v not in rows[rows[k][0]][1]][0])
    return None


class Fault(unittest.TestCase):
    def test_without_places(self):
        self.assertIsNone(fault(graph(0, []), [(None, [])]))
        self.assertIsNone(fault(graph(0, []), [(None, []), (0, []), (0, []), (2, [])]))
        self.assertEqual(fault(graph(0, []), [(None, [0])]), ("row", 0))

    def test_no_rows(self):
        for n in range(11):
            self.assertEqual(fault(graph(n, all_pairs(n)), []), ("row", 0))

    def test_one_bag_of_all(self):
        for n in range(11):
            for pairs in ([], all_pairs(n)):
                self.assertIsNone(fault(graph(n, pairs), [(None, list(range(n)))]))

    def test_great_trees(self):
        self.assertIsNone(fault(PATH, ROW))
        self.assertIsNone(fault(STAR, MANY))
        self.assertIsNone(fault(graph(6, [(0, 1), (1, 2), (0, 3), (2, 4), (1, 5), (2, 5)]), MIXED))
        long = [(None, [0, 1])] + [(k - 1, [0, 1]) for k in range(1, 400)]
        self.assertIsNone(fault(graph(2, [(0, 1)]), long))
        self.assertEqual(fault(graph(2, [(0, 1)]), long[:-1] + [(399, [0, 1])]), ("row", 399))

    def test_every_small_tree(self):
        trees = small_trees(3, 3)
        for g in all_graphs(3):
            for rows in trees:
                self.assertEqual(fault(g, rows), right_fault(g, rows), (g, rows))

    def test_every_longer_tree_of_two_places(self):
        trees = small_trees(2, 5)
        for g in all_graphs(2):
            for rows in trees:
                self.assertEqual(fault(g, rows), right_fault(g, rows), (g, rows))

    def test_every_row_of_small_numbers(self):
        bags = [[], [0], [1], [2], [-1], [0, 1], [1, 0], [0, 0]]
        ups = [None, -1, 0, 1, 2, 3]
        every = [(up, bag) for up in ups for bag in bags]
        g = graph(2, [(0, 1)])
        for first in every:
            self.assertEqual(fault(g, [first]), right_fault(g, [first]))
            for second in every:
                rows = [first, second]
                self.assertEqual(fault(g, rows), right_fault(g, rows), rows)
                rows = [(None, [0, 1]), first, second]
                self.assertEqual(fault(g, rows), right_fault(g, rows), rows)

    def test_bad_ups(self):
        g = graph(2, [(0, 1)])
        for up in [0, 1, -1, BIG, -BIG]:
            self.assertEqual(fault(g, [(up, [0, 1])]), ("row", 0))
            self.assertEqual(fault(g, [(up, [0, 1]), (0, [0])]), ("row", 0))
        for up in [None, 2, 3, -1, -2, BIG, -BIG]:
            self.assertEqual(fault(g, [(None, [0, 1]), (0, [0]), (up, [0])]), ("row", 2))

    def test_bad_bags(self):
        g = graph(3, [(0, 1)])
        for bag in [[3], [-1], [0, 1, 2, 3], [-1, 0], [1, 0], [0, 0], [0, 2, 1], [0, 1, 1, 2], [BIG], [-BIG],
                    [0, BIG]]:
            self.assertEqual(fault(g, [(None, bag)]), ("row", 0), bag)
            self.assertEqual(fault(g, [(None, [0, 1, 2]), (0, bag), (0, [2])]), ("row", 1), bag)

    def test_the_least_row_is_told(self):
        g = graph(3, [])
        self.assertEqual(fault(g, [(None, [0, 1, 2]), (0, [0]), (None, [0]), (3, [1, 1]), (9, [7])]), ("row", 2))
        self.assertEqual(fault(g, [(None, [0, 1, 2]), (0, [1, 1]), (None, [0])]), ("row", 1))
        self.assertEqual(fault(g, [(0, [9]), (None, [9])]), ("row", 0))

    def test_the_first_kind_of_fault_is_told(self):
        g = graph(4, [(0, 1), (2, 3)])
        apart = [(None, [1]), (0, [0]), (1, [1])]
        self.assertEqual(fault(g, apart + [(3, [2])]), ("row", 3))
        self.assertEqual(fault(g, apart + [(2, [2])]), ("place", 3))
        self.assertEqual(fault(g, apart), ("place", 2))
        self.assertEqual(fault(g, apart + [(2, [2, 3])]), ("tie", 0, 1))
        self.assertEqual(fault(g, apart + [(2, [0, 1]), (3, [2]), (4, [3])]), ("tie", 2, 3))
        self.assertEqual(fault(g, apart + [(2, [0, 1]), (3, [2, 3])]), ("apart", 0, 1, 3))
        self.assertEqual(fault(g, apart + [(1, [0, 1]), (3, [2, 3])]), ("apart", 1, 0, 2))

    def test_the_least_place_and_the_first_tie(self):
        g = graph(5, all_pairs(5))
        self.assertEqual(fault(g, [(None, [0, 2, 4])]), ("place", 1))
        self.assertEqual(fault(g, [(None, [0, 1, 2]), (0, [0, 3, 4])]), ("tie", 1, 3))
        self.assertEqual(fault(g, [(None, [0, 1, 2]), (0, [1, 2, 3, 4])]), ("tie", 0, 3))

    def test_places_of_a_tie_in_two_neighbours_do_not_do(self):
        self.assertEqual(fault(graph(2, [(0, 1)]), [(None, [0]), (0, [1])]), ("tie", 0, 1))

    def test_apart(self):
        g = graph(2, [])
        self.assertEqual(fault(g, [(None, [0]), (0, [1]), (0, [1])]), ("apart", 1, 1, 2))
        self.assertEqual(fault(g, [(None, [0, 1]), (0, []), (0, [1]), (1, [0]), (1, [0, 1])]), ("apart", 0, 0, 3))
        self.assertEqual(fault(g, [(None, []), (0, [1]), (1, [0, 1]), (2, [0]), (0, [0]), (0, [1])]),
                         ("apart", 0, 2, 4))

    def test_kinds(self):
        g = graph(2, [(0, 1)])
        for rows in [[], [(None, [])], [(None, [0]), (0, [1])], [(None, [0, 1]), (0, []), (1, [0])]]:
            self.assertIsInstance(fault(g, rows), tuple)


class Width(unittest.TestCase):
    def test_one_bag(self):
        for n in range(11):
            self.assertEqual(width([(None, list(range(n)))]), n - 1)

    def test_the_greatest_bag(self):
        self.assertEqual(width(ROW), 1)
        self.assertEqual(width(MANY), 1)
        self.assertEqual(width(MIXED), 2)
        for k in range(5):
            rows = [(None, [0])] + [(j - 1, [0]) for j in range(1, 5)]
            rows[k] = (rows[k][0], [0, 3, 5, 9])
            self.assertEqual(width(rows), 3)
        self.assertEqual(width([(None, []), (0, []), (1, [])]), -1)


class Rooted(unittest.TestCase):
    def check(self, tree, k):
        told = rooted(tree, k)
        olds = [k]
        ups = [None]
        place = 0
        while place < len(olds):
            for j in range(len(tree)):
                if sorted([j, olds[place]]) in neighbour_pairs(tree) and j not in olds:
                    olds.append(j)
                    ups.append(place)
            place += 1
        self.assertEqual(told, [(up, tree[old][1]) for up, old in zip(ups, olds)])
        moved = sorted(sorted([olds[a], olds[b]]) for a, b in neighbour_pairs(told))
        self.assertEqual(moved, neighbour_pairs(tree))

    def test_every_tree_of_five_rows(self):
        for size in range(1, 6):
            for tree in rows_of([[k] for k in range(size)]):
                for k in range(size):
                    self.check(tree, k)

    def test_great_trees(self):
        for tree in (ROW, MANY, MIXED):
            for k in range(len(tree)):
                self.check(tree, k)

    def test_at_its_own_root(self):
        self.assertEqual(rooted([(None, [])], 0), [(None, [])])
        self.assertEqual(rooted(ROW, 0), ROW)
        self.assertEqual(rooted(MANY, 0), MANY)
        deep_first = [(None, [0]), (0, [0, 1]), (1, [1, 2]), (0, [0, 3])]
        self.assertEqual(rooted(deep_first, 0), [(None, [0]), (0, [0, 1]), (0, [0, 3]), (1, [1, 2])])

    def test_at_its_last_row(self):
        self.assertEqual(rooted(ROW, 8), [(None, [8, 9])] + [(k, [7 - k, 8 - k]) for k in range(8)])
        self.assertEqual(rooted(MANY, 9), [(None, [0, 9]), (0, [0])] + [(1, [0, v]) for v in range(1, 9)])

    def test_in_the_middle(self):
        self.assertEqual(rooted(MIXED, 1), [(None, [1, 2]), (0, [0, 1]), (0, [2, 4]), (0, [1, 2, 5]),
                                            (1, [0, 3]), (2, []), (4, [3])])

    def test_the_same_graph_has_it(self):
        for k in range(len(ROW)):
            self.assertIsNone(fault(PATH, rooted(ROW, k)))
        for k in range(len(MANY)):
            self.assertIsNone(fault(STAR, rooted(MANY, k)))

    def test_four_hundred_rows(self):
        long = [(None, [0])] + [(k - 1, [0, k % 9 + 1]) for k in range(1, 400)]
        told = rooted(long, 399)
        self.assertEqual([up for up, places in told], [None] + list(range(399)))
        self.assertEqual([places for up, places in told], [places for up, places in reversed(long)])

    def test_no_bag(self):
        for tree in ([(None, [])], [(None, [0, 1])], ROW, MANY, MIXED):
            for k in [-1, -len(tree), len(tree), len(tree) + 1, BIG, -BIG]:
                check_refused(self, NoBag, rooted, tree, k)


class Meeting(unittest.TestCase):
    def test_no_sets(self):
        for tree in ([(None, [])], [(None, [0, 1])], ROW, MANY, MIXED):
            self.assertEqual(meeting(tree, []), 0)

    def test_first_bag_that_meets_all(self):
        self.assertEqual(meeting(ROW, [[0, 1, 2], [2, 3, 4]]), 1)
        self.assertEqual(meeting(ROW, [[4], [5]]), 4)
        self.assertEqual(meeting(ROW, [[9]]), 8)
        self.assertEqual(meeting(MANY, [[0], [0, 5]]), 0)
        self.assertEqual(meeting(MANY, [[0], [5]]), 5)
        self.assertEqual(meeting(MIXED, [[5]]), 4)
        self.assertEqual(meeting(MIXED, [[3]]), 2)

    def test_none(self):
        self.assertIsNone(meeting(ROW, [[0], [2]]))
        self.assertIsNone(meeting(ROW, [[0], [0], [9]]))
        self.assertIsNone(meeting(ROW, [[]]))
        self.assertIsNone(meeting(ROW, [[0], []]))
        self.assertIsNone(meeting([(None, [])], [[0]]))

    def test_every_small_tree(self):
        families = [list(family) for size in range(3) for family in itertools.product(subsets(range(3)), repeat=size)]
        for tree in small_trees(3, 2):
            for sets in families:
                right = [k for k, row in enumerate(tree) if all(set(row[1]) & set(places) for places in sets)]
                self.assertEqual(meeting(tree, sets), right[0] if right else None, (tree, sets))

    def test_joined_sets_that_touch_meet(self):
        trees = small_trees(3, 3)
        for g in all_graphs(3):
            parts = [places for places in subsets(range(g[0])) if is_joined(g, places)]
            families = [sets for sets in subsets(parts)
                        if all(touch(g, one, other) for one, other in itertools.combinations(sets, 2))]
            for tree in [tree for tree in trees if fault(g, tree) is None]:
                for sets in families:
                    self.assertIsNotNone(meeting(tree, sets), (g, tree, sets))


class Sides(unittest.TestCase):
    def check(self, tree, k):
        """By neighbours: what is left on either hand when row k is cut from its up."""
        hands = ([], [])
        for j in range(len(tree)):
            hands[0 if tree[k][0] not in way(tree, j, k) else 1].extend(tree[j][1])
        right = tuple(sorted(set(hand)) for hand in hands)
        told = sides(tree, k)
        self.assertIsInstance(told, tuple)
        self.assertEqual(told, right, (tree, k))
        return told

    def test_every_small_tree(self):
        trees = small_trees(3, 3)
        for tree in trees:
            for k in range(1, len(tree)):
                self.check(tree, k)

    def test_what_both_have_in_common_and_no_tie_across(self):
        trees = small_trees(3, 3)
        for g in all_graphs(3):
            for tree in [tree for tree in trees if fault(g, tree) is None]:
                for k in range(1, len(tree)):
                    first, second = sides(tree, k)
                    shared = [v for v in first if v in second]
                    self.assertEqual(shared, [v for v in tree[k][1] if v in tree[tree[k][0]][1]])
                    for a, b in g[1]:
                        self.assertTrue({a, b} <= set(first) or {a, b} <= set(second))

    def test_great_trees(self):
        for tree in (ROW, MANY, MIXED):
            for k in range(1, len(tree)):
                self.check(tree, k)
        self.assertEqual(sides(ROW, 8), ([8, 9], list(range(9))))
        self.assertEqual(sides(ROW, 1), (list(range(1, 10)), [0, 1]))
        self.assertEqual(sides(MANY, 4), ([0, 4], [0, 1, 2, 3, 5, 6, 7, 8, 9]))
        self.assertEqual(sides(MIXED, 1), ([1, 2, 4, 5], [0, 1, 3]))
        self.assertEqual(sides(MIXED, 6), ([], [0, 1, 2, 3, 4, 5]))

    def test_empty_bags(self):
        self.assertEqual(sides([(None, []), (0, [])], 1), ([], []))
        self.assertEqual(sides([(None, []), (0, [2])], 1), ([2], []))

    def test_no_bag(self):
        for tree in ([(None, [])], [(None, [0, 1])], ROW, MANY, MIXED):
            for k in [0, -1, -len(tree), len(tree), len(tree) + 1, BIG, -BIG]:
                check_refused(self, NoBag, sides, tree, k)


if __name__ == "__main__":
    unittest.main()
