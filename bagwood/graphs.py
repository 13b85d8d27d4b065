"""Graphs, told as (n, ties), and what is joined in them."""

from bagwood.errors import NoGraph, NoPlace, NoTie
from bagwood.places import common, is_below, joint, less

MOST_PLACES = 10


def graph(n, pairs):
    if not is_below(MOST_PLACES + 1, n):
        raise NoGraph("the number of places is no whole number from 0 to 10")
    return (n, sorted(set([tie_of(n, a, b) for a, b in pairs])))


def tie_of(n, a, b):
    if not is_below(n, a) or not is_below(n, b):
        raise NoPlace("an end of the pair is no place")
    if a == b:
        raise NoTie("both ends of the pair are one place")
    return (min(a, b), max(a, b))


def around(graph, v):
    if not is_below(graph[0], v):
        raise NoPlace("the number is no place")
    # Ties rise and begin with their lesser place, so both lists rise, and v lies between them.
    lesser = [a for a, b in graph[1] if b == v]
    greater = [b for a, b in graph[1] if a == v]
    return lesser + greater


def is_joined(graph, places):
    return len(pieces(graph, places)) == 1


def pieces(graph, places):
    told = []
    left = places
    while left:
        # The least place that is left begins the next piece: so they come by their least places.
        piece = piece_from(graph, left, left[0])
        told.append(piece)
        left = less(left, piece)
    return told


def piece_from(graph, places, v):
    piece = [v]
    more = common(around(graph, v), places)
    while more:
        piece = joint(piece, more)
        more = common(rim(graph, piece), places)
    return piece


def rim(graph, places):
    tied = []
    for v in places:
        tied = joint(tied, around(graph, v))
    return less(tied, places)


def all_tied(graph, places):
    return all([less(places, around(graph, v)) == [v] for v in places])


def touch(graph, one, other):
    # A tie into the other set that does not end in the rim ends at a place of both sets.
    return bool(common(one, other) or common(rim(graph, one), other))
