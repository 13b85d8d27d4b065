"""Touching families: joined sets each two of which touch. They show that no tree of bags has a lesser width."""

from bagwood.errors import NoPart
from bagwood.graphs import is_joined, pieces
from bagwood.least import free_start, least_tree, least_width
from bagwood.masks import all_bags, first_bags, mask_of, mask_sizes, places_of
from bagwood.places import is_set, joint, less


def flaw(graph, sets):
    for k, places in enumerate(sets):
        if not is_set(graph[0], places) or not is_joined(graph, places):
            return ("part", k)
    bags = first_bags(graph)
    parts = [mask_of(places) for places in sets]
    for j, places in enumerate(sets):
        near = nearby(bags, places)
        for k in range(j + 1, len(parts)):
            if not near & parts[k]:
                return ("apart", j, k)
    return None


def nearby(bags, places):
    """The mask of the places and of all that are tied with one of them: a set touches them where it meets it."""
    near = 0
    for v in places:
        near = near | bags[v]
    return near


def cover(sets):
    every = []
    for places in sets:
        if not places:
            raise NoPart("a set has no place")
        every = joint(every, places)
    size = 0
    found = cover_among(sets, every, size)
    # The places of all sets together are a cover, so one is found in the end.
    while found is None:
        size = size + 1
        found = cover_among(sets, every, size)
    return found


def cover_among(sets, every, size):
    """The first cover of so many of these places, where none of fewer will do; None without one."""
    if not sets:
        return []
    if size == 0:
        return None
    for k, v in enumerate(every):
        left = [places for places in sets if v not in places]
        rest = cover_among(left, every[k + 1:], size - 1)
        if rest is not None:
            return [v] + rest
    return None


def family(graph):
    # No sets can always grow: else there were an order of less than the least width.
    return grown(graph, [])[1]


def grown(graph, sets):
    if flaw(graph, sets) is not None:
        raise NoPart("the sets are no family of the graph")
    wide = least_width(graph)
    sizes = mask_sizes(graph[0])
    bags = all_bags(graph)
    parts = [mask_of(places) for places in sets]
    covers = [True for mask in sizes]
    for part in parts:
        covers = covers_also(covers, part)
    small = small_cover(covers, sizes, wide)
    if small is not None:
        order = free_start(bags, barred_bags(covers, sizes, wide), len(bags) - 1)
        if order is not None:
            return ("order", order)
    while small is not None:
        # The new part misses a cover of the others, so it is none of them. Each of the covers of just as many
        # places as the least width is missed so once at most, and there are at most 252 of them.
        part = next_part(graph, small, bags, barred_bags(covers, sizes, wide))
        parts.append(part)
        covers = covers_also(covers, part)
        small = small_cover(covers, sizes, wide)
    return ("family", [places_of(part) for part in parts])


def covers_also(covers, part):
    """Which masks are covers still, now that they are to meet this part too."""
    return [covers[mask] and (mask & part) != 0 for mask in range(len(covers))]


def small_cover(covers, sizes, wide):
    for mask, size in enumerate(sizes):
        if size == wide and covers[mask]:
            return mask
    return None


def barred_bags(covers, sizes, wide):
    return [covers[mask] and size > wide for mask, size in enumerate(sizes)]


def next_part(graph, small, bags, barred):
    """A part that the small cover of the family misses, and with which the family can grow still."""
    rest = less(list(range(graph[0])), places_of(small))
    found = [mask_of(piece) for piece in pieces(graph, rest)]
    # A family that can grow has a part within one of these pieces, and the whole piece will do in its stead: so
    # where the others won't do, the last one needs no look. One that does not touch a part won't do: its places
    # first, whose bags miss that part, then all others, whose bags miss the piece, are a free order.
    for part in found[:-1]:
        if free_start(bags, covers_also(barred, part), len(bags) - 1) is None:
            return part
    return found[-1]


def settled(graph):
    return (least_width(graph), least_tree(graph), family(graph))
