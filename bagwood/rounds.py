"""The question for the cheapest round through all places.

A state is 1 and then -1 for each place where all is closed; else 0 and then, for each place of the bag, 0 where no tie
ends, -1 where two do, else the number of the path that ends there.
"""

from bagwood.asks import Question, costs_of, renumbered, ties_taken, with_number, without_number
from bagwood.low import ring_among


def ends_at(number):
    return 2 if number == -1 else min(number, 1)


def path_spots(numbers):
    """For each path the two spots at which it ends."""
    firsts = {}
    told = []
    for spot, number in enumerate(numbers):
        first = firsts.setdefault(number, spot)
        if number > 0 and first < spot:
            told.append((first, spot))
    return told


def with_path(numbers, one, other):
    """The numbers when one more path leads from spot to spot; it grows together with those that end there."""
    met = [numbers[spot] for spot in (one, other) if numbers[spot] > 0]
    fresh = max(numbers) + 1
    told = [fresh if number in met else number for number in numbers]
    for spot in (one, other):
        told[spot] = -1 if numbers[spot] > 0 else fresh
    return told


class Rounds(Question):
    def __init__(self, graph, costs=None):
        Question.__init__(self, graph, (0,), (1,))
        self.costs = costs_of(graph[1], costs)

    def shared(self, state):
        return ()

    def joined(self, one, other):
        low, high = sorted([one, other])
        if high[0]:
            # Beside a closed one there is no other tie.
            return [] if any(low) else [high]
        pairs = list(zip(one[1:], other[1:]))
        if any([ends_at(number) + ends_at(more) > 2 for number, more in pairs]):
            return []
        numbers = [-1 if more == -1 else number for number, more in pairs]
        rings = 0
        for first, last in path_spots(other[1:]):
            if numbers[first] == numbers[last] and numbers[first] > 0:
                rings = rings + 1
            numbers = with_path(numbers, first, last)
        if rings == 0:
            return [(0,) + renumbered(numbers)]
        # Each path has its ends in the bag: so where none ends there, and there is one ring, it goes through all.
        return [(1,) + tuple(numbers)] if rings == 1 and all([number == -1 for number in numbers]) else []

    def put_in(self, state, spot, v):
        # A closed one goes through all places beneath, and cannot go through this one any more.
        return [] if state[0] else [(with_number(state, spot + 1, 0), 0)]

    def tied(self, state, one, other, tie):
        path = tuple([1 if spot in (one, other) else 0 for spot in range(len(state) - 1)])
        return [(state, 0)] + [(more, self.costs[tie]) for more in self.joined(state, (0,) + path)]

    def taken_out(self, state, spot, v):
        return [(without_number(state, spot + 1), 0)] if state[spot + 1] == -1 else []

    def thing(self, steps, tops, states):
        places = list(range(self.graph[0]))
        # The walk begins at 0 and goes on to the lesser one of the two places beside it.
        return ring_among((len(places), ties_taken(steps, states)), places)
