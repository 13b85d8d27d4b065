import itertools
import random
import unittest

from bagwood.bags import fault, width
from bagwood.errors import NoPart
from bagwood.families import cover, family, flaw, grown, settled
from bagwood.graphs import graph
from bagwood.least import least_width
from tests.helper import (BIG, PETERSEN, all_graphs, all_orders, all_pairs, are_tied, check_refused, great_graphs,
                          has_way, mixed_graphs, slow_later, subsets)

PATH = graph(4, [(0, 1), (1, 2), (2, 3)])
# By size, and those of one size as lists are compared.
EVERY = [set(places) for places in subsets(range(10))]


def slow_joined(g, places):
    return bool(places) and all(has_way(g, places, places[0], v) for v in places)


def slow_touch(g, one, other):
    return any(a == b or are_tied(g, a, b) for a in one for b in other)


def slow_flaw(g, sets):
    """Point 23, word by word."""
    for k, places in enumerate(sets):
        if not slow_joined(g, places):
            return ("part", k)
    for j, k in itertools.combinations(range(len(sets)), 2):
        if not slow_touch(g, sets[j], sets[k]):
            return ("apart", j, k)
    return None


def slow_cover(sets):
    """Point 24, word by word, of places below 10."""
    for places in EVERY:
        if not any(places.isdisjoint(one) for one in sets):
            return sorted(places)


def joined_sets(g):
    return [places for places in subsets(range(g[0])) if slow_joined(g, places)]


def families_of(g, most):
    """Every family of at most so many parts, as they stand in every order, some of them alike."""
    told = [[]]
    last = [[]]
    for size in range(most):
        last = [sets + [part] for sets in last for part in joined_sets(g)
                if all(slow_touch(g, part, other) for other in sets)]
        told += last
    return told


def drawn_families(g, many):
    """Some families of few and of many parts, always the same ones."""
    chance = random.Random(len(g[1]))
    parts = joined_sets(g)
    for one in range(many):
        sets = []
        for part in chance.sample(parts, min(len(parts), chance.choice([1, 2, 4, 10, 40]))):
            if all(slow_touch(g, part, other) for other in sets):
                sets.append(part)
        yield sets + sets[:one % 3]


def is_free(g, order, sets, wide):
    """What point 25 says of an order that is told for a family."""
    for v, behind in zip(order, slow_later(g, order)[0]):
        bag = set([v] + behind)
        if len(bag) > wide and all(bag & set(part) for part in sets):
            return False
    return True


class Flaw(unittest.TestCase):
    def test_every_short_list_of_small_graphs(self):
        for g in all_graphs(3):
            every = subsets(range(g[0]))
            for size in range(4):
                for sets in itertools.product(every, repeat=size):
                    self.assertEqual(flaw(g, list(sets)), slow_flaw(g, sets), (g, sets))

    def test_every_two_sets_of_four_places(self):
        for g in all_graphs(4):
            every = subsets(range(g[0]))
            for sets in itertools.product(every, repeat=2):
                self.assertEqual(flaw(g, list(sets)), slow_flaw(g, sets), (g, sets))

    def test_drawn_lists(self):
        chance = random.Random(7)
        for g in mixed_graphs() + great_graphs():
            for one in range(5):
                sets = [sorted(chance.sample(range(g[0]), chance.randint(1, g[0]))) for part in range(4) if g[0]]
                self.assertEqual(flaw(g, sets), slow_flaw(g, sets), (g, sets))

    def test_no_sets(self):
        for g in great_graphs() + [graph(0, [])]:
            self.assertIsNone(flaw(g, []))

    def test_parts_alike(self):
        self.assertIsNone(flaw(PATH, [[1, 2], [1, 2], [1, 2]]))
        self.assertEqual(flaw(PATH, [[0], [0], [3], [3]]), ("apart", 0, 2))

    def test_by_hand(self):
        self.assertIsNone(flaw(PATH, [[0, 1], [2, 3], [1, 2]]))
        self.assertEqual(flaw(PATH, [[]]), ("part", 0))
        self.assertEqual(flaw(graph(0, []), [[]]), ("part", 0))
        self.assertEqual(flaw(PATH, [[0], [3], [0, 2], []]), ("part", 2))
        self.assertEqual(flaw(PATH, [[1], [0], [2], [3]]), ("apart", 0, 3))
        self.assertEqual(flaw(PATH, [[1, 2], [0], [2], [3]]), ("apart", 1, 2))

    def test_a_place_tied_with_nothing(self):
        g = graph(4, [(0, 1), (1, 2)])
        self.assertIsNone(flaw(g, [[3]]))
        self.assertEqual(flaw(g, [[3], [3], [0, 1, 2]]), ("apart", 0, 2))
        self.assertEqual(flaw(g, [[2, 3]]), ("part", 0))

    def test_what_is_no_set_of_places_is_no_part(self):
        for part in [[4], [-1], [3, 4], [BIG], [-BIG]]:
            self.assertEqual(flaw(PATH, [[0, 1], part]), ("part", 1))

    def test_four_hundred_sets(self):
        g = graph(10, all_pairs(10))
        sets = [places for places in subsets(range(10)) if places][:400]
        self.assertIsNone(flaw(g, sets))
        self.assertEqual(flaw(g, sets[:399] + [[]]), ("part", 399))
        self.assertEqual(flaw(PATH, [[0]] * 399 + [[2]]), ("apart", 0, 399))


class Cover(unittest.TestCase):
    def test_no_sets(self):
        self.assertEqual(cover([]), [])

    def test_every_short_list(self):
        every = [places for places in subsets(range(4)) if places]
        for size in range(4):
            for sets in itertools.combinations_with_replacement(every, size):
                self.assertEqual(cover(list(sets)), slow_cover(sets), sets)

    def test_drawn_lists(self):
        chance = random.Random(24)
        for many in (1, 2, 3, 5, 8, 13, 30, 100):
            for most in (1, 2, 3, 5, 9):
                sets = [sorted(chance.sample(range(10), chance.randint(1, most))) for one in range(many)]
                self.assertEqual(cover(sets), slow_cover(sets), sets)

    def test_the_first_of_several(self):
        self.assertEqual(cover([[3, 9]]), [3])
        self.assertEqual(cover([[0, 9], [1, 9]]), [9])
        self.assertEqual(cover([[0, 5], [1, 6]]), [0, 1])
        self.assertEqual(cover([[2, 5], [1, 6]]), [1, 2])
        self.assertEqual(cover([[0, 1], [1, 2], [2, 3], [0, 3]]), [0, 2])
        self.assertEqual(cover([[0, 1, 2], [3, 4], [4, 5], [2, 3]]), [2, 4])

    def test_alike_and_one_place_each(self):
        self.assertEqual(cover([[4, 7]] * 400), [4])
        self.assertEqual(cover([[v] for v in range(9, -1, -1)]), list(range(10)))
        self.assertEqual(cover([list(range(10))]), [0])

    def test_all_sets_of_one_size(self):
        for size in range(1, 11):
            sets = [list(places) for places in itertools.combinations(range(10), size)]
            self.assertEqual(cover(sets), list(range(11 - size)))

    def test_a_set_without_a_place(self):
        for sets in [[[]], [[], []], [[0], []], [[], [0]], [[0], [1], [], [2]], [[v] for v in range(10)] + [[]]]:
            check_refused(self, NoPart, cover, sets)


class Growth(unittest.TestCase):
    def check_family(self, g, sets, least, old=0):
        """A family with a cover of one place more than the least width, the parts behind the old ones new."""
        self.assertIsInstance(sets, list)
        for part in sets:
            self.assertIsInstance(part, list)
            self.assertEqual(part, sorted(set(part)))
            self.assertTrue(slow_joined(g, part), (g, part))
        for one, other in itertools.combinations([set(part) for part in sets], 2):
            self.assertTrue(one & other or slow_touch(g, one, other), (g, one, other))
        new = [tuple(part) for part in sets[old:]]
        self.assertLessEqual(len(new), 252)
        self.assertEqual(len(set(new + [tuple(part) for part in sets[:old]])),
                         len(new) + len(set(tuple(part) for part in sets[:old])), (g, sets))
        found = slow_cover(sets)
        self.assertEqual(len(found), least + 1, (g, sets))
        self.assertEqual(cover(sets), found)
        self.assertIsNone(flaw(g, sets))

    def check_grown(self, g, sets, least):
        told = grown(g, sets)
        self.assertIsInstance(told, tuple)
        kind, thing = told
        if kind == "family":
            self.assertEqual(thing[:len(sets)], sets, (g, sets))
            self.check_family(g, thing, least, len(sets))
        else:
            self.assertEqual(kind, "order")
            self.assertEqual(sorted(thing), list(range(g[0])))
            self.assertTrue(is_free(g, thing, sets, least), (g, sets, thing))
        return kind


class Family(Growth):
    def test_every_small_graph(self):
        for g in all_graphs(4):
            self.check_family(g, family(g), least_width(g))

    def test_mixed_and_great_graphs(self):
        for g in mixed_graphs() + great_graphs():
            self.check_family(g, family(g), least_width(g))

    def test_graphs_in_which_small_covers_part_the_rest(self):
        for side in range(1, 6):
            g = graph(10, [(a, b) for a in range(side) for b in range(side, 10)])
            self.check_family(g, family(g), side)
        for pairs in ([(v, (v * 2) % 10) for v in range(1, 10)], [(v, v // 2) for v in range(1, 10)],
                      [(v, (v + 5) % 10) for v in range(10)] + [(v, (v + 1) % 10) for v in range(10)]):
            g = graph(10, pairs)
            self.check_family(g, family(g), least_width(g))

    def test_edges(self):
        self.assertEqual(family(graph(0, [])), [])
        self.assertEqual(family(graph(1, [])), [[0]])
        self.assertEqual(len(family(graph(10, []))), 1)


class Grown(Growth):
    def test_every_family_of_small_graphs(self):
        for g in all_graphs(3):
            least = least_width(g)
            for sets in families_of(g, 3):
                kind = self.check_grown(g, sets, least)
                free = [order for order in all_orders(g[0]) if is_free(g, order, sets, least)]
                self.assertEqual(kind == "family", g[0] == 0 or free == [], (g, sets))

    def test_every_two_parts_of_four_places(self):
        for g in all_graphs(4):
            if g[0] == 4:
                least = least_width(g)
                for sets in families_of(g, 2):
                    self.check_grown(g, sets, least)

    def test_drawn_families(self):
        kinds = []
        for g in mixed_graphs() + great_graphs():
            if g[0]:
                least = least_width(g)
                kinds += [self.check_grown(g, sets, least) for sets in drawn_families(g, 6)]
        self.assertEqual(sorted(set(kinds)), ["family", "order"])

    def test_no_sets_can_always_grow(self):
        for g in mixed_graphs() + great_graphs():
            self.assertEqual(grown(g, [])[0], "family")

    def test_without_places_the_family_is_told(self):
        self.assertEqual(grown(graph(0, []), []), ("family", []))

    def test_parts_on_the_wrong_side(self):
        # A ring of three and a way of two: a family on the way cannot come to width two.
        g = graph(5, [(0, 1), (1, 2), (0, 2), (3, 4)])
        self.assertEqual(self.check_grown(g, [[3], [3, 4], [4]], 2), "order")
        self.assertEqual(self.check_grown(g, [[3, 4]], 2), "order")
        self.assertEqual(self.check_grown(g, [[0], [0], [0, 1, 2]], 2), "family")
        self.assertEqual(self.check_grown(graph(4, [(0, 1), (1, 2)]), [[3]], 1), "order")

    def test_what_is_told_grows_no_more(self):
        for g in great_graphs():
            sets = family(g)
            self.assertEqual(grown(g, sets), ("family", sets))

    def test_many_parts_handed_in(self):
        g = graph(10, all_pairs(10))
        sets = [places for places in subsets(range(10)) if len(places) > 2][:380]
        self.assertEqual(self.check_grown(g, sets, 9), "family")
        self.assertEqual(self.check_grown(g, [[0, 9]] * 380, 9), "family")

    def test_no_family(self):
        bad = [[[]], [[0, 2]], [[0], [2]], [[0, 1], [3]], [[0, 1], []], [[1, 2], [0], [0], [3]], [[4]], [[-1]],
               [[0, 1], [1, 2], [2, 3], [1, 3]], [[BIG]], [[0], [-BIG]]]
        for sets in bad:
            check_refused(self, NoPart, grown, PATH, sets)
        check_refused(self, NoPart, grown, graph(0, []), [[]])
        check_refused(self, NoPart, grown, graph(10, PETERSEN), family(graph(10, PETERSEN)) + [[0, 2]])

    def test_refused_where_there_is_a_flaw(self):
        for g in all_graphs(3):
            every = subsets(range(g[0]))
            for sets in itertools.product(every, repeat=2):
                if slow_flaw(g, sets) is not None:
                    check_refused(self, NoPart, grown, g, list(sets))


class Settled(Growth):
    def check(self, g):
        told = settled(g)
        self.assertIsInstance(told, tuple)
        least, tree, sets = told
        self.assertIsNone(fault(g, tree), (g, tree))
        self.assertEqual(width(tree), least)
        self.assertLessEqual(len(tree), max(g[0], 1))
        self.check_family(g, sets, least)

    def test_every_small_graph(self):
        for g in all_graphs(4):
            self.check(g)

    def test_mixed_and_great_graphs(self):
        for g in mixed_graphs() + great_graphs():
            self.check(g)

    def test_edges(self):
        self.assertEqual(settled(graph(0, [])), (-1, [(None, [])], []))
        self.assertEqual(settled(graph(1, [])), (0, [(None, [0])], [[0]]))


if __name__ == "__main__":
    unittest.main()
