"""Trees of bags, told as a list of rows (up, places)."""

from bagwood.errors import NoBag
from bagwood.places import common, is_below, is_set, joint


def fault(graph, rows):
    told = row_fault(graph[0], rows)
    # The other looks follow ups, which are good to follow only where all rows are as told.
    if told is None:
        told = place_fault(graph[0], rows)
    if told is None:
        told = tie_fault(graph[1], rows)
    if told is None:
        told = apart_fault(graph[0], rows)
    return told


def row_fault(n, rows):
    if not rows:
        return ("row", 0)
    for k, row in enumerate(rows):
        if not is_up(k, row[0]) or not is_set(n, row[1]):
            return ("row", k)
    return None


def is_up(k, up):
    if k == 0:
        return up is None
    return is_below(k, up)


def place_fault(n, rows):
    for v in range(n):
        if not any([v in places for up, places in rows]):
            return ("place", v)
    return None


def tie_fault(ties, rows):
    for a, b in ties:
        if not any([a in places and b in places for up, places in rows]):
            return ("tie", a, b)
    return None


def apart_fault(n, rows):
    for v in range(n):
        # Going up from any bag of v within its bags ends at one of these: one alone means together.
        tops = [k for k, row in enumerate(rows) if v in row[1] and not is_held(rows, row[0], v)]
        if len(tops) > 1:
            return ("apart", v, tops[0], tops[1])
    return None


def is_held(rows, up, v):
    return up is not None and v in rows[up][1]


def width(tree):
    return max([len(places) for up, places in tree]) - 1


def rooted(tree, k):
    if not is_below(len(tree), k):
        raise NoBag("the number is no row's")
    near = neighbours(tree)
    olds = [k]
    rows = []
    ups = [None]
    while len(rows) < len(olds):
        row = len(rows)
        old = olds[row]
        rows.append((ups[row], list(tree[old][1])))
        fresh = [j for j in near[old] if j not in olds]
        olds.extend(fresh)
        ups.extend([row for j in fresh])
    return rows


def neighbours(tree):
    near = [[] for row in tree]
    for k, row in enumerate(tree):
        # An up is less than its row, so each list fills rising.
        if row[0] is not None:
            near[k].append(row[0])
            near[row[0]].append(k)
    return near


def meeting(tree, sets):
    for k, row in enumerate(tree):
        if all([common(row[1], places) for places in sets]):
            return k
    return None


def sides(tree, k):
    if k == 0 or not is_below(len(tree), k):
        raise NoBag("the number is no row's that has an up")
    first = []
    second = []
    beneath = []
    for j, row in enumerate(tree):
        # Ups come ahead of their rows, so it is known of the up already.
        beneath.append(j == k or (row[0] is not None and beneath[row[0]]))
        if beneath[j]:
            first = joint(first, row[1])
        else:
            second = joint(second, row[1])
    return (first, second)
