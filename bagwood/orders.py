"""Orders in which the places of a graph are taken out, and the trees of bags that belong to them."""

from bagwood.bags import fault
from bagwood.errors import NoOrder, NoPlace, NoTree
from bagwood.graphs import tie_of
from bagwood.masks import first_bags, places_of, taken_out
from bagwood.places import is_below, is_set, joint, less


def later(graph, order):
    refuse_no_order(graph[0], order)
    bags = first_bags(graph)
    told = []
    for v in order:
        told.append(less(places_of(bags[v]), [v]))
        bags = taken_out(bags, v)
    return told


def refuse_no_order(n, order):
    if len(order) != n or not is_set(n, sorted(order)):
        raise NoOrder("the list is no order of all places")


def order_width(graph, order):
    return max([len(places) for places in later(graph, order)], default=-1)


def reached(graph, gone, v):
    if not is_below(graph[0], v) or v in gone:
        raise NoPlace("the number is no place that is left")
    bags = first_bags(graph)
    for u in gone:
        bags = taken_out(bags, u)
    return less(places_of(bags[v]), [v])


def filled(graph, order):
    ties = []
    # Each tie, old or new, is met once: when the first of its places is taken out.
    for v, places in zip(order, later(graph, order)):
        ties.extend([tie_of(graph[0], v, u) for u in places])
    return (graph[0], sorted(ties))


def is_perfect(graph, order):
    return filled(graph, order)[1] == graph[1]


def tree_of(graph, order):
    n = graph[0]
    behind = later(graph, order)
    if n == 0:
        return [(None, [])]
    rows = []
    for k in range(n):
        spot = n - 1 - k
        first = min([order.index(u) for u in behind[spot]], default=n - 1)
        up = None if k == 0 else n - 1 - first
        rows.append((up, joint([order[spot]], behind[spot])))
    return rows


def order_of(graph, tree):
    if fault(graph, tree) is not None:
        raise NoTree("the rows are no tree of bags of the graph")
    order = []
    for up, places in tree:
        order = less(places, order) + order
    return order
