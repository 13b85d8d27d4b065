"""What several tests need: small worlds to go through whole, and the checks of point 2."""

import copy
import itertools

from bagwood.graphs import graph

BIG = 10 ** 60 - 1
PETERSEN = [(0, 1), (1, 2), (2, 3), (3, 4), (0, 4), (0, 5), (1, 6), (2, 7), (3, 8), (4, 9),
            (5, 7), (7, 9), (6, 9), (6, 8), (5, 8)]


def all_pairs(n):
    return list(itertools.combinations(range(n), 2))


def subsets(things):
    things = list(things)
    return [list(some) for size in range(len(things) + 1)
            for some in itertools.combinations(things, size)]


def all_graphs(most):
    """Every graph of at most so many places, written down without the program's help."""
    return [(n, ties) for n in range(most + 1) for ties in subsets(all_pairs(n))]


def great_graphs():
    path = [(v, v + 1) for v in range(9)]
    return [graph(10, pairs) for pairs in
            ([], path, path + [(9, 0)], [(0, v) for v in range(1, 10)], PETERSEN, all_pairs(10),
             [(0, 1), (1, 2), (4, 5), (5, 6), (4, 6), (8, 9)])]


def are_tied(g, a, b):
    return (a, b) in g[1] or (b, a) in g[1]


def has_way(g, places, a, b):
    """Whether some way, looked for as a row of unlike places, leads from a to b within the set."""
    if a == b:
        return True
    rest = [v for v in places if v != a]
    return any(are_tied(g, a, v) and has_way(g, rest, v, b) for v in rest)


def lists_in(thing):
    """Every list and dict in a thing, itself among them."""
    found = [thing] if isinstance(thing, (list, dict)) else []
    if isinstance(thing, dict):
        thing = list(thing.items())
    if isinstance(thing, (list, tuple)):
        for part in thing:
            found.extend(lists_in(part))
    return found


def spoil(thing):
    for one in lists_in(thing):
        if isinstance(one, dict):
            one.clear()
        else:
            one.append("spoilt")
            one.reverse()


def check_own(test, asked, *handed):
    """Point 2, of one function and what is handed to it."""
    before = copy.deepcopy(handed)
    told = asked(*handed)
    test.assertEqual(handed, before)
    kept = copy.deepcopy(told)
    every = lists_in(told) + lists_in(handed)
    test.assertEqual(len(set(id(one) for one in every)), len(every), "a list is shared")
    again = asked(*handed)
    test.assertEqual(again, kept)
    spoil(told)
    test.assertEqual(again, kept)
    test.assertEqual(handed, before)
    told = asked(*handed)
    test.assertEqual(told, kept)
    spoil(handed)
    test.assertEqual(told, kept)
    test.assertEqual(asked(*before), kept)


def check_refused(test, refusal, asked, *handed):
    with test.assertRaises(refusal) as taken:
        asked(*handed)
    test.assertIs(taken.exception.__class__, refusal, handed)
