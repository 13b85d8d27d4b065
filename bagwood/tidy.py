"""Trees of bags made tidy: without bags that lie within a neighbour's."""

from bagwood.places import less


def tidied(tree):
    rows = []
    # For each old row the new one whose bag its own lies within.
    spots = []
    for up, places in tree:
        spot = None if up is None else spots[up]
        if spot is None or are_crossed(places, rows[spot][1]):
            spots.append(len(rows))
            rows.append((spot, list(places)))
        else:
            # The greater of the two stays. What it has in common with another neighbour was in the lesser one
            # too, since the bags of a place are together: so no neighbour comes to lie within it.
            if len(places) > len(rows[spot][1]):
                rows[spot] = (rows[spot][0], list(places))
            spots.append(spot)
    return rows


def are_crossed(one, other):
    return bool(less(one, other) and less(other, one))
