import itertools
import random
import unittest

from bagwood.graphs import graph, is_joined, touch
from bagwood.least import least_width
from bagwood.low import folds, four, wood
from tests.helper import PETERSEN, all_graphs, all_pairs, are_tied, drawn_graphs, great_graphs, has_way, mixed_graphs


def ring_of(n):
    return graph(n, [(v, (v + 1) % n) for v in range(n)])


def drawn_woods():
    chance = random.Random(27)
    told = []
    for n in range(1, 11):
        for one in range(20):
            names = chance.sample(range(n), n)
            pairs = [(names[k], names[chance.randrange(k)]) for k in range(1, n) if chance.random() < 0.8]
            told.append(graph(n, pairs))
    return told


def has_ring(g):
    """Whether the ends of a tie are joined by another way, too."""
    whole = list(range(g[0]))
    return any(has_way((g[0], [other for other in g[1] if other != tie]), whole, *tie) for tie in g[1])


def slow_ups(g):
    """The place behind v on the one way from v to the least place that a way leads to."""
    told = []
    for v in range(g[0]):
        least = min(u for u in range(g[0]) if has_way(g, list(range(g[0])), v, u))
        rest = [u for u in range(g[0]) if u != v]
        told.append(None if least == v else
                    [u for u in rest if are_tied(g, u, v) and has_way(g, rest, u, least)][0])
    return told


def slow_folds(g):
    left, ties, steps = list(range(g[0])), set(g[1]), []
    while True:
        near = {v: [u for u in left if (u, v) in ties or (v, u) in ties] for v in left}
        can = [v for v in left if len(near[v]) <= 2]
        if not can:
            return steps, left
        steps.append((can[0], near[can[0]]))
        if len(near[can[0]]) == 2:
            ties.add(tuple(near[can[0]]))
        left.remove(can[0])


class Wood(unittest.TestCase):
    def check(self, g):
        kind, told = wood(g)
        self.assertEqual(kind, "ring" if has_ring(g) else "wood", g)
        if kind == "wood":
            self.assertEqual(told, slow_ups(g), g)
        else:
            self.assertGreaterEqual(len(told), 3, g)
            self.assertEqual(len(set(told)), len(told), g)
            for a, b in zip(told, told[1:] + told[:1]):
                self.assertTrue(are_tied(g, a, b), (g, told))

    def test_every_small_graph(self):
        for g in all_graphs(5):
            self.check(g)

    def test_greater_graphs(self):
        for g in mixed_graphs()[:48] + drawn_woods() + drawn_graphs(26, 60, 4, 2):
            self.check(g)

    def test_told_cases(self):
        self.assertEqual(wood((0, [])), ("wood", []))
        self.assertEqual(wood((1, [])), ("wood", [None]))
        self.assertEqual(wood((4, [])), ("wood", [None] * 4))
        several = graph(9, [(7, 1), (1, 4), (4, 8), (2, 6), (5, 6), (0, 3)])
        self.assertEqual(wood(several), ("wood", [None, None, None, 0, 1, 6, 2, 1, 4]))
        self.assertEqual(wood(graph(4, [(3, 0), (3, 1), (3, 2)])), ("wood", [None, 3, 3, 0]))

    def test_rings(self):
        for n in (3, 10):
            kind, told = wood(ring_of(n))
            self.assertEqual((kind, sorted(told)), ("ring", list(range(n))))
            self.check(ring_of(n))
        tailed = graph(10, [(0, 9), (9, 1), (1, 5), (5, 6), (6, 7), (7, 8), (8, 5), (2, 3)])
        self.assertEqual((wood(tailed)[0], sorted(wood(tailed)[1])), ("ring", [5, 6, 7, 8]))
        self.check(tailed)
        for pairs in (PETERSEN, all_pairs(10)):
            kind, told = wood(graph(10, pairs))
            self.assertEqual(kind, "ring")
            self.assertTrue(all(are_tied((10, sorted(pairs)), a, b) for a, b in zip(told, told[1:] + told[:1])))


class Folds(unittest.TestCase):
    def test_every_small_graph(self):
        for g in all_graphs(5):
            self.assertEqual(folds(g), slow_folds(g), g)

    def test_greater_graphs(self):
        for g in mixed_graphs() + great_graphs() + drawn_woods() + drawn_graphs(26, 300, 4, 2):
            self.assertEqual(folds(g), slow_folds(g), g)

    def test_told_cases(self):
        self.assertEqual(folds((0, [])), ([], []))
        self.assertEqual(folds((3, [(1, 2)])), ([(0, []), (1, [2]), (2, [])], []))
        # The fold of 0 ties 1 with 3, and that of 1 ties 2 with 3, which are tied already.
        self.assertEqual(folds(ring_of(4)), ([(0, [1, 3]), (1, [2, 3]), (2, [3]), (3, [])], []))
        self.assertEqual(folds(graph(4, all_pairs(4))), ([], [0, 1, 2, 3]))
        # The place 0, with two beside it, stands in the stead of the tie (3, 4) among four.
        split = graph(5, [(1, 2), (1, 3), (1, 4), (2, 3), (2, 4), (0, 3), (0, 4)])
        self.assertEqual(folds(split), ([(0, [3, 4])], [1, 2, 3, 4]))
        self.assertEqual(folds(graph(10, PETERSEN)), ([], list(range(10))))

    def test_the_least_place_that_can_goes_first_each_time(self):
        # Place 1 can go only behind 2, and then it goes ahead of 3.
        g = graph(5, [(0, 1), (0, 2), (0, 3), (0, 4), (1, 2), (1, 3), (1, 4), (3, 4), (2, 3)])
        self.assertEqual(folds(g), slow_folds(g))
        g = graph(4, [(0, 1), (0, 2), (0, 3)])
        self.assertEqual(folds(g), ([(1, [0]), (0, [2, 3]), (2, [3]), (3, [])], []))


class Four(unittest.TestCase):
    def check(self, g):
        told = four(g)
        self.assertEqual(told is None, slow_folds(g)[1] == [], g)
        if told is None:
            return
        self.assertEqual(len(told), 4, g)
        for places in told:
            self.assertEqual(places, sorted(set(places)), g)
            self.assertTrue(set(places) <= set(range(g[0])), g)
            self.assertTrue(is_joined(g, places), g)
        for one, other in itertools.combinations(told, 2):
            self.assertFalse(set(one) & set(other), g)
            self.assertTrue(any(are_tied(g, a, b) for a in one for b in other), g)
            self.assertTrue(touch(g, one, other))

    def test_every_small_graph(self):
        for g in all_graphs(5):
            self.check(g)

    def test_greater_graphs(self):
        for g in mixed_graphs() + great_graphs() + drawn_graphs(26, 400, 4, 3):
            self.check(g)

    def test_told_cases(self):
        self.assertIsNone(four((0, [])))
        self.assertIsNone(four(ring_of(10)))
        self.assertEqual(sorted(four(graph(4, all_pairs(4)))), [[0], [1], [2], [3]])
        # Each of the ties among four is a way of two ties here: ten places, all of them needed.
        ends = all_pairs(4)
        apart = graph(10, [(a, 4 + k) for k, (a, b) in enumerate(ends)] + [(b, 4 + k) for k, (a, b) in enumerate(ends)])
        self.assertEqual(len(folds(apart)[1]), 4)
        self.check(apart)
        self.assertEqual(sorted(sum(four(apart), [])), list(range(10)))


class LowWidths(unittest.TestCase):
    def test_woods_and_folds_go_by_the_least_width(self):
        for g in all_graphs(5) + mixed_graphs() + great_graphs() + drawn_woods() + drawn_graphs(26, 60, 4, 2):
            least = least_width(g)
            self.assertEqual(wood(g)[0] == "wood", least <= 1, g)
            self.assertEqual(folds(g)[1] == [], least <= 2, g)


if __name__ == "__main__":
    unittest.main()
