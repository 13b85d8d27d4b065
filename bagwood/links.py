"""The question for the cheapest tree that joins told places.

A state is 1 and then noughts where all is closed; else 0 and then, for each place of the bag, the number of its piece,
0 for a place that is not in the set.
"""

from bagwood.asks import Question, costs_of, renumbered, ties_taken, with_number, without_number
from bagwood.errors import NoPlace
from bagwood.places import is_set


def merged(numbers, one, other):
    """The pieces when those of two spots become one."""
    return [numbers[one] if number == numbers[other] else number for number in numbers]


class Links(Question):
    def __init__(self, graph, told, costs=None):
        if not told or not is_set(graph[0], sorted(told)):
            raise NoPlace("the told places are none, or not all of them places, each once")
        Question.__init__(self, graph, (0,), (1,))
        self.told = list(told)
        self.costs = costs_of(graph[1], costs)

    def shared(self, state):
        return tuple([number > 0 for number in state[1:]])

    def joined(self, one, other):
        low, high = sorted([one, other])
        if high[0]:
            # Beside a closed one there is no other piece.
            return [] if any(low) else [high]
        numbers = one[1:]
        firsts = {}
        for spot, piece in enumerate(other[1:]):
            first = firsts.setdefault(piece, spot)
            if piece > 0 and first < spot:
                if numbers[first] == numbers[spot]:
                    # Joined in both bags already, so there would be a ring.
                    return []
                numbers = merged(numbers, first, spot)
        return [(0,) + renumbered(numbers)]

    def put_in(self, state, spot, v):
        told = []
        if v not in self.told:
            told.append((with_number(state, spot + 1, 0), 0))
        if not state[0]:
            # No piece has a number as great as that: a bag has fewer places.
            numbers = with_number(state[1:], spot, len(state))
            told.append(((0,) + renumbered(numbers), 0))
        return told

    def tied(self, state, one, other, tie):
        numbers = state[1:]
        told = [(state, 0)]
        if numbers[one] > 0 and numbers[other] > 0 and numbers[one] != numbers[other]:
            told.append(((0,) + renumbered(merged(numbers, one, other)), self.costs[tie]))
        return told

    def taken_out(self, state, spot, v):
        number = state[spot + 1]
        left = without_number(state[1:], spot)
        if number == 0 or number in left:
            return [(state[:1] + renumbered(left), 0)]
        # The place was the last one of its piece in the bag: that is well where no other piece is there.
        return [] if any(left) else [((1,) + left, 0)]

    def thing(self, steps, tops, states):
        return ties_taken(steps, states)
