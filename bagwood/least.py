"""The least width of a graph, found by the costs of all sets of places."""

from bagwood.masks import all_bags, mask_of, mask_sizes
from bagwood.orders import tree_of
from bagwood.tidy import tidied


def costs(graph):
    return costs_along(all_bags(graph))


def costs_along(bags):
    n = len(bags[0])
    sizes = mask_sizes(n)
    # No place has n later places, so each cost but the first is found anew.
    told = [-1] + [n for mask in range(1, len(bags))]
    for gone, left in enumerate(bags):
        for v, bag in enumerate(left):
            if bag:
                more = gone | (1 << v)
                told[more] = min(told[more], max(told[gone], sizes[bag] - 1))
    return told


def start(graph, places):
    bags = all_bags(graph)
    mask = mask_of(places)
    most = costs_along(bags)[mask]
    return free_start(bags, [size - 1 > most for size in mask_sizes(graph[0])], mask)


def free_start(bags, barred, mask):
    """The places of the mask in an order in which, ahead of all others, no bag is barred; None without one."""
    # For each set that can be taken out so, at its mask, the place that goes last.
    lasts = [None for gone in bags]
    for gone, left in enumerate(bags):
        if gone == 0 or lasts[gone] is not None:
            for v, bag in enumerate(left):
                if bag and not barred[bag]:
                    lasts[gone | (1 << v)] = v
    told = []
    while mask and lasts[mask] is not None:
        told.insert(0, lasts[mask])
        mask = mask - (1 << lasts[mask])
    return None if mask else told


def least_width(graph):
    return costs(graph)[-1]


def least_order(graph):
    return start(graph, list(range(graph[0])))


def least_tree(graph):
    return tidied(tree_of(graph, least_order(graph)))
