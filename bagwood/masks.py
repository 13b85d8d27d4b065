"""Sets of places as whole numbers, for the searches that go through all sets.

A mask has the bit 1 << v for each place v of its set. The bags of a graph are a list with a mask for each place:
the place and those that are tied with it; 0 for a place that is taken out.
"""


def mask_of(places):
    return sum([1 << v for v in places])


def places_of(mask):
    return [v for v in range(mask.bit_length()) if mask & (1 << v)]


def mask_sizes(n):
    sizes = [0]
    for mask in range(1, 1 << n):
        sizes.append(sizes[mask >> 1] + mask % 2)
    return sizes


def first_bags(graph):
    bags = [1 << v for v in range(graph[0])]
    for a, b in graph[1]:
        bags[a] = bags[a] | (1 << b)
        bags[b] = bags[b] | (1 << a)
    return bags


def taken_out(bags, v):
    bit = 1 << v
    # The bag of v holds all that are tied with it: so they come to be tied with one another.
    left = [(bag | bags[v]) - bit if bag & bit else bag for bag in bags]
    left[v] = 0
    return left


def all_bags(graph):
    """For each set of places, at its mask, the bags that are left when its places are taken out."""
    told = [first_bags(graph)]
    for gone in range(1, 1 << graph[0]):
        last = gone.bit_length() - 1
        told.append(taken_out(told[gone - (1 << last)], last))
    return told
