"""Whole numbers, and sets of places: rising lists that hold each place once.

The sets that are told here are always new lists, so a caller may hand them on as the asker's own.
"""


def is_whole(thing):
    # To Python the truths are ints as well; here they are no numbers.
    return isinstance(thing, int) and not isinstance(thing, bool)


def is_below(n, thing):
    return is_whole(thing) and 0 <= thing < n


def is_set(n, places):
    if not all([is_below(n, v) for v in places]):
        return False
    return all([places[k - 1] < places[k] for k in range(1, len(places))])


def common(one, other):
    return [v for v in one if v in other]


def joint(one, other):
    return sorted(set(one) | set(other))


def less(one, other):
    return [v for v in one if v not in other]
