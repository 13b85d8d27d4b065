"""Rows of steps that work on a pile of bags, and how they belong to trees of bags."""

from bagwood.bags import fault
from bagwood.errors import NoSteps, NoTree, TooWide
from bagwood.places import is_below, joint, less
from bagwood.tidy import tidied

MOST_IN_A_BAG = 4

# How many of the top bags a step works on.
USED = {"leaf": 0, "in": 1, "tie": 1, "out": 1, "join": 2}


def steps_fault(graph, steps):
    tops, feeds, pile = run(graph, steps)
    return fault_behind(graph, steps, tops, pile)


def run(graph, steps):
    """The steps done as far as they can be. A bag goes by the number of the step that laid it.

    Told are the places of these bags, the bags on which each of the steps worked, and the pile at the end.
    """
    tops = []
    feeds = []
    pile = []
    for k, step in enumerate(steps):
        left = len(pile) - USED[step[0]]
        bag = None
        if left >= 0:
            bag = bag_behind(graph, steps[:k], step, [tops[j] for j in pile[left:]])
        if bag is None:
            break
        tops.append(bag)
        feeds.append(pile[left:])
        pile = pile[:left] + [k]
    return (tops, feeds, pile)


def bag_behind(graph, done, step, used):
    """The places of the bag that the step lays in the stead of the used ones; None where it cannot be done."""
    kind = step[0]
    if kind == "leaf":
        return []
    bag = used[0]
    if kind == "in":
        v = step[1]
        return joint(bag, [v]) if is_below(graph[0], v) and v not in bag and ("out", v) not in done else None
    if kind == "tie":
        return bag if step[1:] in graph[1] and not less(step[1:], bag) and step not in done else None
    if kind == "out":
        return less(bag, step[1:]) if step[1] in bag and step not in done else None
    return bag if bag == used[1] else None


def fault_behind(graph, steps, tops, pile):
    if len(tops) < len(steps):
        return ("step", len(tops))
    if [tops[k] for k in pile] != [[]]:
        return ("pile",)
    for v in range(graph[0]):
        if ("in", v) not in steps:
            return ("place", v)
    for a, b in graph[1]:
        if ("tie", a, b) not in steps:
            return ("tie", a, b)
    return None


def run_whole(graph, steps):
    """The places of the bags, and the bags on which each step works, of steps that fit."""
    tops, feeds, pile = run(graph, steps)
    if fault_behind(graph, steps, tops, pile) is not None:
        raise NoSteps("the steps do not fit the graph")
    return (tops, feeds)


def steps_of(graph, tree):
    if fault(graph, tree) is not None:
        raise NoTree("the rows are no tree of bags of the graph")
    refuse_wide([places for up, places in tree])
    # Tidied it has no more rows than places, so there are few steps, and the calls below do not go deep.
    rows = tidied(tree)
    return steps_up_to(graph, rows, 0) + [("out", v) for v in rows[0][1]]


def refuse_wide(bags):
    if any([len(bag) > MOST_IN_A_BAG for bag in bags]):
        raise TooWide("a bag has more than four places")


def steps_up_to(graph, rows, k):
    """Steps that lay the bag of row k on the pile, with all beneath it."""
    up, places = rows[k]
    steps = []
    for j, row in enumerate(rows):
        if row[0] == k:
            joins = [("join",)] if steps else []
            steps = steps + steps_up_to(graph, rows, j) + steps_between(row[1], places) + joins
    if not steps:
        steps = [("leaf",)] + steps_between([], places)
    above = [] if up is None else rows[up][1]
    # The bags that hold both ends of a tie are together: just one of them, the topmost, has an up that does not.
    return steps + [("tie", a, b) for a, b in graph[1] if a in places and b in places and less([a, b], above)]


def steps_between(lower, upper):
    # A place that leaves here is in no other bag that is still to come; and it leaves first, so that no bag on the
    # way is greater than both.
    return [("out", v) for v in less(lower, upper)] + [("in", v) for v in less(upper, lower)]


def bags_of(graph, steps):
    tops, feeds = run_whole(graph, steps)
    last = len(steps) - 1
    ups = [None for step in steps]
    for k, used in enumerate(feeds):
        for j in used:
            ups[j] = last - k
    return [(ups[k], list(tops[k])) for k in range(last, -1, -1)]
