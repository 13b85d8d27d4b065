"""What several tests need: small worlds to go through whole, and the checks of point 2."""

import copy
import itertools
import random

from bagwood.graphs import graph

BIG = 10 ** 60 - 1
PETERSEN = [(0, 1), (1, 2), (2, 3), (3, 4), (0, 4), (0, 5), (1, 6), (2, 7), (3, 8), (4, 9),
            (5, 7), (7, 9), (6, 9), (6, 8), (5, 8)]


def all_pairs(n):
    return list(itertools.combinations(range(n), 2))


def subsets(things):
    things = list(things)
    return [list(some) for size in range(len(things) + 1)
            for some in itertools.combinations(things, size)]


def all_graphs(most):
    """Every graph of at most so many places, written down without the program's help."""
    return [(n, ties) for n in range(most + 1) for ties in subsets(all_pairs(n))]


def great_graphs():
    path = [(v, v + 1) for v in range(9)]
    return [graph(10, pairs) for pairs in
            ([], path, path + [(9, 0)], [(0, v) for v in range(1, 10)], PETERSEN, all_pairs(10),
             [(0, 1), (1, 2), (4, 5), (5, 6), (4, 6), (8, 9)])]


def mixed_graphs():
    """Graphs of 0 to 10 places: a way, a ring, and no, few, half, nearly all and all ties."""
    told = []
    for n in range(11):
        path = [(v, v + 1) for v in range(n - 1)]
        ring = path + ([(0, n - 1)] if n > 2 else [])
        drawn = all_pairs(n)
        random.Random(n).shuffle(drawn)
        some = [drawn[:most] for most in (0, n, len(drawn) // 2, len(drawn) - 3, len(drawn) - 1, len(drawn))]
        told.extend(graph(n, pairs) for pairs in [path, ring] + some)
    return told


def all_orders(n):
    return [list(order) for order in itertools.permutations(range(n))]


def some_orders(n, many):
    """Rising, falling, and so many others, always the same ones."""
    chance = random.Random(n)
    rising = list(range(n))
    return [rising, rising[::-1]] + [chance.sample(rising, n) for one in range(many)]


def slow_later(g, order):
    """Point 16 word by word: the later places of each, and all ties that there are in the end."""
    ties = set(g[1])
    told = []
    for k, v in enumerate(order):
        behind = [u for u in sorted(order[k + 1:]) if (u, v) in ties or (v, u) in ties]
        ties.update(itertools.combinations(behind, 2))
        told.append(behind)
    return told, sorted(ties)


def slow_width(g, order):
    return max([len(behind) for behind in slow_later(g, order)[0]] + [-1])


def bad_orders(n):
    whole = list(range(n))
    bad = [whole + [more] for more in [n, n + 1, -1, -n - 1, BIG, -BIG] + whole]
    bad += [[more] + whole for more in [n, -1, BIG, -BIG] + whole]
    for k in range(n):
        rest = whole[:k] + whole[k + 1:]
        bad.append(rest)
        # One in the stead of place k: another one again, one too great, one below nought.
        bad += [whole[:k] + [other] + whole[k + 1:] for other in rest + [n, n + 1, 10, -1, k - n, BIG, -BIG]
                if other != k]
    if n:
        bad += [[], whole + whole, [0] * n + [0], whole[::-1] + [0]]
    return bad + [list(range(400))]


def are_tied(g, a, b):
    return (a, b) in g[1] or (b, a) in g[1]


def has_way(g, places, a, b):
    """Whether some way, looked for as a row of unlike places, leads from a to b within the set."""
    if a == b:
        return True
    rest = [v for v in places if v != a]
    return any(are_tied(g, a, v) and has_way(g, rest, v, b) for v in rest)


def way(rows, j, k):
    """The bags from j to k along neighbours, both among them."""
    ups = {}
    for start in (j, k):
        ups[start] = [start]
        while rows[ups[start][-1]][0] is not None:
            ups[start].append(rows[ups[start][-1]][0])
    shared = [one for one in ups[j] if one in ups[k]]
    return [one for one in ups[j] + ups[k] if one not in shared] + shared[:1]


def row_is_as_told(n, rows, k):
    up, places = rows[k]
    if (up is not None) if k == 0 else (up not in range(k)):
        return False
    return places == sorted(set(places)) and all(v in range(n) for v in places)


def rows_of(bags):
    """Every tree that has these bags in this order."""
    ups = [[None]] + [list(range(k)) for k in range(1, len(bags))]
    return [[(up, list(bag)) for up, bag in zip(chosen, bags)] for chosen in itertools.product(*ups)]


def small_trees(n, most):
    """Every list of rows as told, of places from 0 to n - 1."""
    every = subsets(range(n))
    return [rows for size in range(1, most + 1) for bags in itertools.product(every, repeat=size)
            for rows in rows_of(bags)]


def neighbour_pairs(rows):
    return sorted(sorted([row[0], k]) for k, row in enumerate(rows) if row[0] is not None)


def lists_in(thing):
    """Every list and dict in a thing, itself among them."""
    found = [thing] if isinstance(thing, (list, dict)) else []
    if isinstance(thing, dict):
        thing = list(thing.items())
    if isinstance(thing, (list, tuple)):
        for part in thing:
            found.extend(lists_in(part))
    return found


def spoil(thing):
    for one in lists_in(thing):
        if isinstance(one, dict):
            one.clear()
        else:
            one.append("spoilt")
            one.reverse()


def check_own(test, asked, *handed):
    """Point 2, of one function and what is handed to it."""
    before = copy.deepcopy(handed)
    told = asked(*handed)
    test.assertEqual(handed, before)
    kept = copy.deepcopy(told)
    every = lists_in(told) + lists_in(handed)
    test.assertEqual(len(set(id(one) for one in every)), len(every), "a list is shared")
    again = asked(*handed)
    test.assertEqual(again, kept)
    spoil(told)
    test.assertEqual(again, kept)
    test.assertEqual(handed, before)
    told = asked(*handed)
    test.assertEqual(told, kept)
    spoil(handed)
    test.assertEqual(told, kept)
    test.assertEqual(asked(*before), kept)


def check_refused(test, refusal, asked, *handed):
    before = copy.deepcopy(handed)
    with test.assertRaises(refusal) as taken:
        asked(*handed)
    test.assertIs(taken.exception.__class__, refusal, handed)
    test.assertEqual(handed, before)
