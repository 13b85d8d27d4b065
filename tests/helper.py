"""What several tests need: small worlds to go through whole, and the checks of point 2."""

import copy
import itertools
import random

from bagwood.graphs import graph
from bagwood.tables import answer, tables, trail

BIG = 10 ** 60 - 1
PETERSEN = [(0, 1), (1, 2), (2, 3), (3, 4), (0, 4), (0, 5), (1, 6), (2, 7), (3, 8), (4, 9),
            (5, 7), (7, 9), (6, 9), (6, 8), (5, 8)]


def all_pairs(n):
    return list(itertools.combinations(range(n), 2))


def subsets(things):
    things = list(things)
    return [list(some) for size in range(len(things) + 1)
            for some in itertools.combinations(things, size)]


def all_graphs(most):
    """Every graph of at most so many places, written down without the program's help."""
    return [(n, ties) for n in range(most + 1) for ties in subsets(all_pairs(n))]


def drawn_graphs(seed, many, least, dense):
    """Graphs of so many places or more, up to 10; the ties of each are as many as chance says, but so dense at most."""
    chance = random.Random(seed)
    told = []
    for one in range(many):
        n = chance.randint(least, 10)
        pairs = all_pairs(n)
        told.append(graph(n, chance.sample(pairs, chance.randint(0, min(len(pairs), dense * n)))))
    return told


def wrong_amounts(many):
    """Lists that are no weights or costs where so many are asked for."""
    good = [0] * many
    wrong = [good + [1], good + [0, 0]] + ([good[:-1], []] if many else [])
    for k in range(many):
        wrong += [good[:k] + [bad] + good[k + 1:] for bad in (-1, 10 ** 30, 10 ** 30 + 1, BIG, -BIG)]
    return wrong


def great_graphs():
    path = [(v, v + 1) for v in range(9)]
    return [graph(10, pairs) for pairs in
            ([], path, path + [(9, 0)], [(0, v) for v in range(1, 10)], PETERSEN, all_pairs(10),
             [(0, 1), (1, 2), (4, 5), (5, 6), (4, 6), (8, 9)])]


def mixed_graphs():
    """Graphs of 0 to 10 places: a way, a ring, and no, few, half, nearly all and all ties."""
    told = []
    for n in range(11):
        path = [(v, v + 1) for v in range(n - 1)]
        ring = path + ([(0, n - 1)] if n > 2 else [])
        drawn = all_pairs(n)
        random.Random(n).shuffle(drawn)
        some = [drawn[:most] for most in (0, n, len(drawn) // 2, len(drawn) - 3, len(drawn) - 1, len(drawn))]
        told.extend(graph(n, pairs) for pairs in [path, ring] + some)
    return told


def all_orders(n):
    return [list(order) for order in itertools.permutations(range(n))]


def some_orders(n, many):
    """Rising, falling, and so many others, always the same ones."""
    chance = random.Random(n)
    rising = list(range(n))
    return [rising, rising[::-1]] + [chance.sample(rising, n) for one in range(many)]


def slow_later(g, order):
    """Point 16 word by word: the later places of each, and all ties that there are in the end."""
    ties = set(g[1])
    told = []
    for k, v in enumerate(order):
        behind = [u for u in sorted(order[k + 1:]) if (u, v) in ties or (v, u) in ties]
        ties.update(itertools.combinations(behind, 2))
        told.append(behind)
    return told, sorted(ties)


def slow_width(g, order):
    return max([len(behind) for behind in slow_later(g, order)[0]] + [-1])


def bad_orders(n):
    whole = list(range(n))
    bad = [whole + [more] for more in [n, n + 1, -1, -n - 1, BIG, -BIG] + whole]
    bad += [[more] + whole for more in [n, -1, BIG, -BIG] + whole]
    for k in range(n):
        rest = whole[:k] + whole[k + 1:]
        bad.append(rest)
        # One in the stead of place k: another one again, one too great, one below nought.
        bad += [whole[:k] + [other] + whole[k + 1:] for other in rest + [n, n + 1, 10, -1, k - n, BIG, -BIG]
                if other != k]
    if n:
        bad += [[], whole + whole, [0] * n + [0], whole[::-1] + [0]]
    return bad + [list(range(400))]


def are_tied(g, a, b):
    return (a, b) in g[1] or (b, a) in g[1]


def has_way(g, places, a, b):
    """Whether some way, looked for as a row of unlike places, leads from a to b within the set."""
    if a == b:
        return True
    rest = [v for v in places if v != a]
    return any(are_tied(g, a, v) and has_way(g, rest, v, b) for v in rest)


def way(rows, j, k):
    """The bags from j to k along neighbours, both among them."""
    ups = {}
    for start in (j, k):
        ups[start] = [start]
        while rows[ups[start][-1]][0] is not None:
            ups[start].append(rows[ups[start][-1]][0])
    shared = [one for one in ups[j] if one in ups[k]]
    return [one for one in ups[j] + ups[k] if one not in shared] + shared[:1]


def row_is_as_told(n, rows, k):
    up, places = rows[k]
    if (up is not None) if k == 0 else (up not in range(k)):
        return False
    return places == sorted(set(places)) and all(v in range(n) for v in places)


def rows_of(bags):
    """Every tree that has these bags in this order."""
    ups = [[None]] + [list(range(k)) for k in range(1, len(bags))]
    return [[(up, list(bag)) for up, bag in zip(chosen, bags)] for chosen in itertools.product(*ups)]


def small_trees(n, most):
    """Every list of rows as told, of places from 0 to n - 1."""
    every = subsets(range(n))
    return [rows for size in range(1, most + 1) for bags in itertools.product(every, repeat=size)
            for rows in rows_of(bags)]


def neighbour_pairs(rows):
    return sorted(sorted([row[0], k]) for k, row in enumerate(rows) if row[0] is not None)


def drawn_world(chance, n, many, most):
    """A graph of n places and a tree of bags of it, of so many rows (or more), no bag of more places than most."""
    ups = [None] + [chance.randrange(k) for k in range(1, many)]
    bags = [[] for up in ups]
    for v in range(n):
        free = [k for k, bag in enumerate(bags) if len(bag) < most]
        if not free:
            ups.append(chance.randrange(len(ups)))
            bags.append([])
            free = [len(bags) - 1]
        reach = [chance.choice(free)]
        while reach:
            k = reach.pop(chance.randrange(len(reach)))
            bags[k].append(v)
            near = [j for j, up in enumerate(ups) if up == k or ups[k] == j]
            reach += [j for j in near if len(bags[j]) < most and v not in bags[j] and j not in reach
                      and chance.random() < 0.5]
    rows = [(up, sorted(bag)) for up, bag in zip(ups, bags)]
    within = sorted(set(pair for bag in bags for pair in itertools.combinations(sorted(bag), 2)))
    return graph(n, chance.sample(within, chance.choice([len(within), len(within) * 2 // 3, 0]))), rows


def drawn_worlds(seed, many, n, rows, most):
    chance = random.Random(seed)
    return [drawn_world(chance, chance.randint(0, n), chance.randint(1, rows), most) for one in range(many)]


def dense_world(chance, n, most, fewer):
    """A graph of n places with nearly all ties that a tree of bags of so many places has room for, and such a tree.

    Some bags stand there twice, so that their ties can come from several sides.
    """
    names = chance.sample(range(n), n)
    rows = [(None, sorted(names[:most]))]
    for v in names[most:]:
        up = chance.randrange(len(rows))
        rows.append((up, sorted(chance.sample(rows[up][1], most - 1) + [v])))
    for one in range(chance.randint(0, 3)):
        up = chance.randrange(len(rows))
        rows.append((up, list(rows[up][1])))
    ties = sorted(set(pair for up, bag in rows for pair in itertools.combinations(bag, 2)))
    return graph(n, chance.sample(ties, max(0, len(ties) - chance.randint(0, fewer)))), rows


def dense_worlds(seed, many, least, n, most, fewer):
    chance = random.Random(seed)
    return [dense_world(chance, chance.randint(least, n), most, fewer) for one in range(many)]


def drawn_steps(chance, g, rows):
    """Steps that fit, along the tree: with branches and joins more than it has, and ties brought anywhere."""
    homes = [[] for row in rows]
    for tie in g[1]:
        homes[chance.choice([k for k, row in enumerate(rows) if set(tie) <= set(row[1])])].append(("tie",) + tie)

    def moved(lower, upper):
        outs = [("out", v) for v in lower if v not in upper]
        ins = [("in", v) for v in upper if v not in lower]
        chance.shuffle(outs)
        chance.shuffle(ins)
        mixed = chance.sample(outs + ins, len(outs + ins))
        return mixed if len(set(lower) | set(upper)) <= 4 else outs + ins

    def climbed(k):
        bag = rows[k][1]
        branches = [climbed(j) + moved(row[1], bag) for j, row in enumerate(rows) if row[0] == k]
        while not branches or chance.random() < 0.2:
            branches.append([("leaf",)] + moved([], bag))
        for tie in homes[k]:
            chance.choice(branches).append(tie)
        steps = []
        waiting = 0
        for branch in branches:
            steps += branch
            waiting += 1
            while waiting > 1 and (branch is branches[-1] or chance.random() < 0.5):
                steps.append(("join",))
                waiting -= 1
        return steps

    return climbed(0) + moved(rows[0][1], [])


def slow_run(g, steps):
    """The pile behind each step by the words of point 30, and None from the first step on that cannot be done.

    A bag is told as (places, places beneath, ties beneath, number of the step that laid it).
    """
    piles = [[]]
    for k, step in enumerate(steps):
        pile = list(piles[-1])
        need = {"leaf": 0, "join": 2}.get(step[0], 1)
        if len(pile) < need:
            return piles[1:] + [None]
        used = [pile.pop() for one in range(need)]
        bag, places, ties = ([], [], []) if not used else used[0][:3]
        if step[0] == "in":
            can = step[1] in range(g[0]) and step[1] not in bag and ("out", step[1]) not in steps[:k]
            bag, places = sorted(bag + [step[1]]), sorted(places + [step[1]])
        elif step[0] == "out":
            can = step[1] in bag and steps[:k].count(step) == 0
            bag = [v for v in bag if v != step[1]]
        elif step[0] == "tie":
            can = step[1:] in g[1] and set(step[1:]) <= set(bag) and steps[:k].count(step) == 0
            ties = sorted(ties + [step[1:]])
        elif step[0] == "join":
            can = bag == used[1][0]
            places, ties = sorted(set(places + used[1][1])), sorted(ties + used[1][2])
        else:
            can = True
        if not can:
            return piles[1:] + [None]
        piles.append(pile + [(bag, places, ties, k)])
    return piles[1:]


def slow_steps_fault(g, steps):
    piles = slow_run(g, steps)
    if None in piles:
        return ("step", piles.index(None))
    if not piles or [bag[0] for bag in piles[-1]] != [[]]:
        return ("pile",)
    for v in range(g[0]):
        if not any(step[0] == "in" and step[1] == v for step in steps):
            return ("place", v)
    for tie in g[1]:
        if not any(step[0] == "tie" and step[1:] == tie for step in steps):
            return ("tie",) + tie
    return None


def slow_tops(g, steps):
    """Behind each step the top bag, the places beneath and the ties beneath."""
    return [pile[-1][:3] for pile in slow_run(g, steps)]


class SlowColours:
    """Points 33 and 34 word by word: a part-thing is a dict from places to colours."""

    best = min

    def __init__(self, g, many, weights=None):
        self.many = many
        self.weights = weights or [1] * g[0]

    def parts(self, bag, places, ties):
        every = [dict(zip(places, some)) for some in itertools.product(range(self.many), repeat=len(places))]
        return [part for part in every if all(part[a] != part[b] for a, b in ties)]

    def state(self, part, bag, ties):
        return tuple(part[v] for v in bag)

    def amount(self, part, bag):
        return sum(self.weights[v] * part[v] for v in part if v not in bag)

    def cut(self, part, places, ties):
        return {v: part[v] for v in places}

    def told(self, part):
        return [part[v] for v in sorted(part)]

    def wholes(self, places, ties):
        return self.parts([], places, ties)


class SlowApart:
    best = max

    def __init__(self, g, weights=None):
        self.weights = weights or [1] * g[0]

    def parts(self, bag, places, ties):
        return [part for part in subsets(places) if not any(a in part and b in part for a, b in ties)]

    def state(self, part, bag, ties):
        return tuple(int(v in part) for v in bag)

    def amount(self, part, bag):
        return sum(self.weights[v] for v in part if v not in bag)

    def cut(self, part, places, ties):
        return [v for v in part if v in places]

    def told(self, part):
        return part

    def wholes(self, places, ties):
        return self.parts([], places, ties)


class SlowWatch(SlowApart):
    best = min

    def parts(self, bag, places, ties):
        return [part for part in subsets(places)
                if all(self.look(part, v, ties) > 0 for v in places if v not in bag)]

    def look(self, part, v, ties):
        over = [u for u in part if (u, v) in ties or (v, u) in ties]
        return 2 if v in part else 1 if over else 0

    def state(self, part, bag, ties):
        return tuple(self.look(part, v, ties) for v in bag)


def grouped(places, ties):
    """The pieces into which these ties join these places."""
    groups = [{v} for v in places]
    for a, b in ties:
        met = [group for group in groups if a in group or b in group]
        groups = [group for group in groups if group not in met] + [set().union(*met)]
    return groups


def has_no_ring(places, ties):
    return len(grouped(places, ties)) == len(places) - len(ties)


class SlowLinks:
    """Points 37 and 38 word by word: a part-thing is a tuple of its places and its ties."""

    best = min

    def __init__(self, g, told, costs=None):
        self.must = told
        self.costs = dict(zip(g[1], costs or [1] * len(g[1])))

    def parts(self, bag, places, ties):
        found = []
        for some in subsets(ties):
            ends = sorted(set(v for tie in some for v in tie))
            if has_no_ring(ends, some):
                for more in subsets([v for v in places if v not in ends]):
                    part = (sorted(ends + more), some)
                    if all(v in part[0] for v in self.must if v in places) and self.is_good(part, bag):
                        found.append(part)
        return found

    def is_good(self, part, bag):
        return self.is_closed(part, bag) or all(group & set(bag) for group in grouped(*part))

    def is_closed(self, part, bag):
        return len(grouped(*part)) == 1 and not set(part[0]) & set(bag)

    def state(self, part, bag, ties):
        if self.is_closed(part, bag):
            return (1,) + (0,) * len(bag)
        groups = grouped(*part)
        met = []
        state = [0]
        for v in bag:
            home = [group for group in groups if v in group]
            met += [group for group in home if group not in met]
            state.append(met.index(home[0]) + 1 if home else 0)
        return tuple(state)

    def amount(self, part, bag):
        return sum(self.costs[tie] for tie in part[1])

    def cut(self, part, places, ties):
        return [v for v in part[0] if v in places], [tie for tie in part[1] if tie in ties]

    def told(self, part):
        return sorted(part[1])

    def wholes(self, places, ties):
        return [part for part in self.parts([], places, ties) if self.is_closed(part, [])]


class SlowRounds:
    """Points 39 and 40 word by word: a part-thing is a tuple of the places beneath and its ties."""

    best = min

    def __init__(self, g, costs=None):
        self.costs = dict(zip(g[1], costs or [1] * len(g[1])))

    def ends(self, part, v):
        return sum(v in tie for tie in part[1])

    def parts(self, bag, places, ties):
        every = [(places, some) for some in subsets(ties)]
        return [part for part in every if self.is_closed(part) or self.is_open(part, bag)]

    def is_open(self, part, bag):
        return has_no_ring(*part) and all(self.ends(part, v) <= 2 if v in bag else self.ends(part, v) == 2
                                          for v in part[0])

    def is_closed(self, part):
        return (len(part[0]) >= 3 and all(self.ends(part, v) == 2 for v in part[0])
                and len(grouped(*part)) == 1)

    def state(self, part, bag, ties):
        if self.is_closed(part):
            return (1,) + (-1,) * len(bag)
        groups = grouped(*part)
        met = []
        state = [0]
        for v in bag:
            home = [group for group in groups if v in group][0]
            if self.ends(part, v) == 1 and home not in met:
                met.append(home)
            state.append({0: 0, 2: -1}.get(self.ends(part, v)) if self.ends(part, v) != 1 else met.index(home) + 1)
        return tuple(state)

    def amount(self, part, bag):
        return sum(self.costs[tie] for tie in part[1])

    def cut(self, part, places, ties):
        return places, [tie for tie in part[1] if tie in ties]

    def told(self, part):
        turn = [0]
        while len(turn) < len(part[0]):
            turn.append(min(v for v in part[0] if v not in turn and are_tied((0, part[1]), turn[-1], v)))
        return turn

    def wholes(self, places, ties):
        return [part for part in self.parts([], places, ties) if self.is_closed(part)]


def check_tables(test, slow, question, g, steps):
    """The tables and the trail along the steps against a count of all part-things behind each of them."""
    told = tables(steps, question)
    test.assertEqual(len(told), len(steps))
    tops = slow_tops(g, steps)
    for table, (bag, places, ties) in zip(told, tops):
        right = {}
        for part in slow.parts(bag, places, ties):
            right.setdefault(slow.state(part, bag, ties), []).append(slow.amount(part, bag))
        test.assertEqual(table, {state: (len(some), slow.best(some)) for state, some in right.items()}, (g, steps))
    wholes = slow.wholes(*tops[-1][1:])
    states = trail(steps, question)
    if not wholes:
        test.assertIsNone(states)
        return
    best = slow.best(slow.amount(part, []) for part in wholes)
    test.assertIn(states, [[slow.state(slow.cut(part, places, ties), bag, ties) for bag, places, ties in tops]
                           for part in wholes if slow.amount(part, []) == best], (g, steps))
    for table, state in zip(told, states):
        test.assertIn(state, table)


def check_answer(test, slow, question, g, tree):
    """An answer against a count of all things."""
    wholes = slow.wholes(list(range(g[0])), g[1])
    told = answer(tree, question)
    if not wholes:
        test.assertEqual(told, (0, None, None))
        return told
    best = slow.best(slow.amount(part, []) for part in wholes)
    test.assertEqual(told[:2], (len(wholes), best), (g, tree))
    test.assertIn(told[2], [slow.told(part) for part in wholes if slow.amount(part, []) == best], (g, tree))
    test.assertIsInstance(told, tuple)
    return told


def lists_in(thing):
    """Every list and dict in a thing, itself among them."""
    found = [thing] if isinstance(thing, (list, dict)) else []
    if isinstance(thing, dict):
        thing = list(thing.items())
    if isinstance(thing, (list, tuple)):
        for part in thing:
            found.extend(lists_in(part))
    return found


def spoil(thing):
    for one in lists_in(thing):
        if isinstance(one, dict):
            one.clear()
        else:
            one.append("spoilt")
            one.reverse()


def check_own(test, asked, *handed):
    """Point 2, of one function and what is handed to it."""
    before = copy.deepcopy(handed)
    told = asked(*handed)
    test.assertEqual(handed, before)
    kept = copy.deepcopy(told)
    every = lists_in(told) + lists_in(handed)
    test.assertEqual(len(set(id(one) for one in every)), len(every), "a list is shared")
    again = asked(*handed)
    test.assertEqual(again, kept)
    spoil(told)
    test.assertEqual(again, kept)
    test.assertEqual(handed, before)
    told = asked(*handed)
    test.assertEqual(told, kept)
    spoil(handed)
    test.assertEqual(told, kept)
    test.assertEqual(asked(*before), kept)


def check_refused(test, refusal, asked, *handed):
    before = copy.deepcopy(handed)
    with test.assertRaises(refusal) as taken:
        asked(*handed)
    test.assertIs(taken.exception.__class__, refusal, handed)
    test.assertEqual(handed, before)
