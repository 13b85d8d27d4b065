"""Graphs of low width: woods, which have no ring, and graphs that fold away."""

from bagwood.graphs import around, piece_from, pieces, touch
from bagwood.masks import first_bags, mask_sizes, places_of, taken_out
from bagwood.places import common, joint, less


def wood(graph):
    left = ringed(graph)
    if left:
        return ("ring", ring_among(graph, left))
    ups = [None for v in range(graph[0])]
    for piece in pieces(graph, list(range(graph[0]))):
        for v in piece[1:]:
            ups[v] = up_to(graph, piece, v)
    return ("wood", ups)


def ringed(graph):
    """The greatest set in which each place is tied with two others or more: no place where there is no ring."""
    left = list(range(graph[0]))
    loose = loose_among(graph, left)
    while loose:
        left = less(left, loose)
        loose = loose_among(graph, left)
    return left


def loose_among(graph, left):
    return [v for v in left if len(common(around(graph, v), left)) < 2]


def ring_among(graph, left):
    way = left[:1]
    v = common(around(graph, way[0]), left)[0]
    while v not in way:
        way.append(v)
        # Each place here is tied with another one than that from which the way came to it.
        v = less(common(around(graph, v), left), way[-2:-1])[0]
    return way[way.index(v):]


def up_to(graph, piece, v):
    # Without rings, just one of the places around v is joined to the least one without it.
    home = piece_from(graph, less(piece, [v]), piece[0])
    return common(around(graph, v), home)[0]


def folds(graph):
    bags = first_bags(graph)
    sizes = mask_sizes(graph[0])
    steps = []
    v = first_to_fold(bags, sizes)
    while v is not None:
        steps.append((v, less(places_of(bags[v]), [v])))
        bags = taken_out(bags, v)
        v = first_to_fold(bags, sizes)
    return (steps, [u for u, bag in enumerate(bags) if bag])


def first_to_fold(bags, sizes):
    for v, bag in enumerate(bags):
        # A bag is the place itself and those that it is tied with.
        if bag and sizes[bag] <= 3:
            return v
    return None


def four(graph):
    parts = [[v] for v in range(graph[0])]
    if not is_firm(graph, parts):
        return None
    # What folds away when a place is dropped, or the ends of a tie are made one, does so the more when others are
    # dropped or made one besides: so each is tried once. A graph that does not fold away holds four sets that touch
    # each other, and where nothing can be dropped or made one any more there is nothing else.
    for v in range(graph[0]):
        parts = firm_of(graph, less(parts, [[v]]), parts)
    for a, b in graph[1]:
        parts = firm_of(graph, made_one(parts, a, b), parts)
    return parts


def is_firm(graph, parts):
    """Whether the graph whose places are the parts, tied where they touch, does not fold away."""
    ties = []
    for k in range(len(parts)):
        ties.extend([(j, k) for j in range(k) if touch(graph, parts[j], parts[k])])
    return bool(folds((len(parts), ties))[1])


def firm_of(graph, fewer, parts):
    return fewer if is_firm(graph, fewer) else parts


def made_one(parts, a, b):
    met = [part for part in parts if a in part or b in part]
    if len(met) < 2:
        return parts
    return less(parts, met) + [joint(met[0], met[1])]
