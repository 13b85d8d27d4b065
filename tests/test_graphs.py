import itertools
import unittest

from bagwood.errors import NoGraph, NoPlace, NoTie
from bagwood.graphs import all_tied, around, graph, is_joined, pieces, rim, touch
from tests.helper import (BIG, PETERSEN, all_graphs, all_pairs, are_tied, check_refused, great_graphs,
                          has_way, subsets)


class Graph(unittest.TestCase):
    def test_no_ties(self):
        for n in range(11):
            self.assertEqual(graph(n, []), (n, []))

    def test_all_ties(self):
        for n in range(11):
            pairs = all_pairs(n)
            turned = [(b, a) for a, b in reversed(pairs)]
            self.assertEqual(graph(n, pairs), (n, pairs))
            self.assertEqual(graph(n, turned), (n, pairs))
            self.assertEqual(graph(n, turned + pairs + turned), (n, pairs))

    def test_every_order_and_way_round(self):
        ties = [(0, 1), (0, 3), (1, 2)]
        ways = [[tie, (tie[1], tie[0])] for tie in ties]
        for chosen in itertools.product(*ways):
            for pairs in itertools.permutations(chosen):
                self.assertEqual(graph(4, list(pairs)), (4, ties))

    def test_more_than_once(self):
        self.assertEqual(graph(3, [(2, 1), (1, 2), (2, 1), (0, 2), (0, 2)]), (3, [(0, 2), (1, 2)]))

    def test_sorted_by_a_then_b(self):
        self.assertEqual(graph(10, [(9, 2), (2, 1), (0, 9), (3, 0)]), (10, [(0, 3), (0, 9), (1, 2), (2, 9)]))
        self.assertEqual(graph(10, PETERSEN), (10, sorted(PETERSEN)))

    def test_kinds(self):
        told = graph(3, [(2, 1), (1, 0)])
        self.assertIsInstance(told, tuple)
        self.assertIsInstance(told[1], list)
        for tie in told[1]:
            self.assertIsInstance(tie, tuple)

    def test_no_graph(self):
        for n in [-1, 11, 12, BIG, -BIG, True, False, None, "", "3", 3.0, 0.0, [], [3], (3,), {}, (), {3}, int]:
            check_refused(self, NoGraph, graph, n, [])

    def test_no_graph_ahead_of_the_pairs(self):
        for n in [-1, 11, True, None, "3", [3], 3.0]:
            check_refused(self, NoGraph, graph, n, [(0, 99), (1, 1)])

    def test_no_place(self):
        for n in range(11):
            for bad in [-1, n, n + 1, BIG, -BIG]:
                check_refused(self, NoPlace, graph, n, [(0, bad)])
                check_refused(self, NoPlace, graph, n, [(bad, 0)])
                check_refused(self, NoPlace, graph, n, [(bad, bad)])

    def test_no_tie(self):
        for n in range(1, 11):
            check_refused(self, NoTie, graph, n, [(0, 0)])
            check_refused(self, NoTie, graph, n, [(n - 1, n - 1)])

    def test_first_bad_pair_decides(self):
        check_refused(self, NoTie, graph, 3, [(0, 1), (2, 2), (0, 3)])
        check_refused(self, NoPlace, graph, 3, [(0, 1), (0, 3), (2, 2)])
        check_refused(self, NoTie, graph, 3, [(2, 2), (-1, 0), (3, 3)])
        check_refused(self, NoPlace, graph, 3, [(3, 3), (2, 2)])
        check_refused(self, NoPlace, graph, 3, [(BIG, 0), (1, 1)])
        check_refused(self, NoTie, graph, 3, [(1, 1), (0, -BIG)])

    def test_a_bad_pair_behind_many_good_ones(self):
        check_refused(self, NoPlace, graph, 10, all_pairs(10) + [(0, 10)])
        check_refused(self, NoTie, graph, 10, all_pairs(10) + [(9, 9)])


class Around(unittest.TestCase):
    def test_every_small_graph(self):
        for g in all_graphs(4):
            for v in range(g[0]):
                self.assertEqual(around(g, v), [w for w in range(g[0]) if are_tied(g, v, w)])

    def test_ten_places(self):
        for g in great_graphs():
            for v in range(10):
                self.assertEqual(around(g, v), [w for w in range(10) if are_tied(g, v, w)])
        self.assertEqual(around(graph(10, PETERSEN), 7), [2, 5, 9])

    def test_no_place(self):
        for n in range(11):
            g = graph(n, all_pairs(n))
            for bad in [-1, n, n + 1, BIG, -BIG]:
                check_refused(self, NoPlace, around, g, bad)


class Joined(unittest.TestCase):
    def test_no_place_and_one(self):
        for n in range(11):
            for g in (graph(n, []), graph(n, all_pairs(n))):
                self.assertIs(is_joined(g, []), False)
                self.assertEqual(pieces(g, []), [])
                for v in range(n):
                    self.assertIs(is_joined(g, [v]), True)
                    self.assertEqual(pieces(g, [v]), [[v]])

    def check(self, g, places):
        joined = len(places) > 0 and all(has_way(g, places, places[0], v) for v in places)
        self.assertIs(is_joined(g, places), joined, (g, places))
        right = [[w for w in places if has_way(g, places, v, w)] for v in places]
        right = [piece for k, piece in enumerate(right) if piece not in right[:k]]
        self.assertEqual(pieces(g, places), right, (g, places))

    def test_every_small_graph_and_set(self):
        for g in all_graphs(4):
            for places in subsets(range(g[0])):
                self.check(g, places)

    def test_five_places(self):
        for ties in subsets(all_pairs(5))[::7]:
            for places in subsets(range(5)):
                self.check((5, ties), places)

    def test_ten_places(self):
        path = graph(10, [(v, v + 1) for v in range(9)])
        everything = list(range(10))
        self.assertEqual(pieces(path, everything), [everything])
        self.assertEqual(pieces(path, [0, 1, 3, 5, 6, 7, 9]), [[0, 1], [3], [5, 6, 7], [9]])
        self.assertIs(is_joined(path, [2, 3, 4]), True)
        self.assertIs(is_joined(path, [2, 4]), False)
        self.assertEqual(pieces(graph(10, []), everything), [[v] for v in everything])
        self.assertIs(is_joined(graph(10, all_pairs(10)), everything), True)
        # The way from 0 leads through 9 and back to 1: no walk by rising places alone finds it.
        crooked = graph(10, [(0, 9), (9, 1), (1, 8), (8, 2), (7, 3)])
        self.assertEqual(pieces(crooked, everything), [[0, 1, 2, 8, 9], [3, 7], [4], [5], [6]])

    def test_a_way_outside_of_the_set_does_not_join(self):
        star = graph(10, [(9, v) for v in range(9)])
        self.assertIs(is_joined(star, [0, 1]), False)
        self.assertEqual(pieces(star, list(range(9))), [[v] for v in range(9)])
        self.assertIs(is_joined(star, [0, 1, 9]), True)


class Rim(unittest.TestCase):
    def check(self, g, places):
        outside = [v for v in range(g[0]) if v not in places]
        right = [v for v in outside if any(are_tied(g, v, w) for w in places)]
        self.assertEqual(rim(g, places), right, (g, places))
        tied = all(are_tied(g, a, b) for a, b in itertools.combinations(places, 2))
        self.assertIs(all_tied(g, places), tied, (g, places))

    def test_every_small_graph_and_set(self):
        for g in all_graphs(4):
            for places in subsets(range(g[0])):
                self.check(g, places)

    def test_ten_places(self):
        for g in great_graphs():
            for places in subsets(range(10))[::5] + [list(range(10))]:
                self.check(g, places)

    def test_no_place_and_one(self):
        for n in range(11):
            for g in (graph(n, []), graph(n, all_pairs(n))):
                self.assertEqual(rim(g, []), [])
                self.assertEqual(rim(g, list(range(n))), [])
                self.assertIs(all_tied(g, []), True)
                for v in range(n):
                    self.assertEqual(rim(g, [v]), around(g, v))
                    self.assertIs(all_tied(g, [v]), True)

    def test_one_tie_lacks(self):
        for lacking in all_pairs(5):
            g = graph(5, [tie for tie in all_pairs(5) if tie != lacking])
            for places in subsets(range(5)):
                right = not (lacking[0] in places and lacking[1] in places)
                self.assertIs(all_tied(g, places), right)


class Touch(unittest.TestCase):
    def check(self, g, one, other):
        right = any(a == b or are_tied(g, a, b) for a in one for b in other)
        self.assertIs(touch(g, one, other), right, (g, one, other))

    def test_every_two_sets_of_three_places(self):
        for g in all_graphs(3):
            for one in subsets(range(g[0])):
                for other in subsets(range(g[0])):
                    self.check(g, one, other)

    def test_ten_places(self):
        for g in great_graphs():
            for one in subsets(range(10))[::31]:
                for other in subsets(range(10))[::23]:
                    self.check(g, one, other)

    def test_edges(self):
        g = graph(4, [(0, 1), (1, 2)])
        self.assertIs(touch(g, [], []), False)
        self.assertIs(touch(g, [], [0, 1, 2, 3]), False)
        self.assertIs(touch(g, [0, 1, 2, 3], []), False)
        self.assertIs(touch(g, [3], [3]), True)
        self.assertIs(touch(g, [0], [1]), True)
        self.assertIs(touch(g, [1], [0]), True)
        self.assertIs(touch(g, [0], [2]), False)
        self.assertIs(touch(g, [0, 3], [2]), False)


if __name__ == "__main__":
    unittest.main()
