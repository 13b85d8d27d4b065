"""Questions: what each of them does with the states of part-things, step by step.

A question tells the state behind a leaf; for a state what it may become by an in, a tie or an out, as a list of
tuples (state, amount), the amount being what comes to that of the part-thing; and for two states what they become
by a join, as a list of one state or none. Two part-things, or two ways to go on from one, never make the same
part-thing: so their numbers may be added up.
"""

from bagwood.errors import NoColours, NoWeights
from bagwood.places import is_below

MOST_COLOURS = 4
BEYOND_WEIGHTS = 10 ** 30


def weights_of(many, weights):
    if weights is None:
        return [1 for k in range(many)]
    if len(weights) != many or not all([is_below(BEYOND_WEIGHTS, weight) for weight in weights]):
        raise NoWeights("the weights are not as many as asked for, or not from 0 to 10 ** 30 - 1")
    return list(weights)


def costs_of(ties, costs):
    return dict(zip(ties, weights_of(len(ties), costs)))


def with_number(state, spot, number):
    return state[:spot] + (number,) + state[spot:]


def without_number(state, spot):
    return state[:spot] + state[spot + 1:]


def renumbered(numbers):
    """The numbers above 0 told anew, from 1 on as they are met; the others stay."""
    met = {}
    for number in numbers:
        if number > 0:
            met.setdefault(number, len(met) + 1)
    return tuple([met.get(number, number) for number in numbers])


def ties_taken(steps, states):
    """The ties by which the trail's states change; where each tie that a thing takes changes its state, just these."""
    # The bag on which a tie works was laid by the step ahead of it.
    spots = [k for k, step in enumerate(steps) if step[0] == "tie" and states[k] != states[k - 1]]
    return sorted([steps[k][1:] for k in spots])


def numbers_put_in(n, steps, tops, states):
    """For each place the number that it had in the trail's state when it was put in."""
    told = [None for v in range(n)]
    for step, bag, state in zip(steps, tops, states):
        if step[0] == "in":
            told[step[1]] = state[bag.index(step[1])]
    return told


# What is told of joins here is right where a state is a choice for each place of the bag and nothing else.
class Question:
    def __init__(self, graph, leaf, whole):
        self.graph = (graph[0], list(graph[1]))
        # The state behind a leaf, and that of whole things behind the last step.
        self.leaf = leaf
        self.whole = whole

    def is_better(self, one, other):
        return one < other

    def shared(self, state):
        """That in which the states of two bags must be alike for a join of them."""
        return state

    def joined(self, one, other):
        return [one]


class Colours(Question):
    def __init__(self, graph, many, weights=None):
        if not is_below(MOST_COLOURS + 1, many):
            raise NoColours("the number of colours is no whole number from 0 to 4")
        Question.__init__(self, graph, (), ())
        self.many = many
        self.weights = weights_of(graph[0], weights)

    def put_in(self, state, spot, v):
        return [(with_number(state, spot, colour), 0) for colour in range(self.many)]

    def tied(self, state, one, other, tie):
        return [(state, 0)] if state[one] != state[other] else []

    def taken_out(self, state, spot, v):
        return [(without_number(state, spot), self.weights[v] * state[spot])]

    def thing(self, steps, tops, states):
        return numbers_put_in(self.graph[0], steps, tops, states)


class Apart(Question):
    def __init__(self, graph, weights=None):
        Question.__init__(self, graph, (), ())
        self.weights = weights_of(graph[0], weights)

    def is_better(self, one, other):
        return one > other

    def put_in(self, state, spot, v):
        return [(with_number(state, spot, number), 0) for number in (0, 1)]

    def tied(self, state, one, other, tie):
        return [(state, 0)] if state[one] + state[other] < 2 else []

    def taken_out(self, state, spot, v):
        return [(without_number(state, spot), self.weights[v] * state[spot])]

    def thing(self, steps, tops, states):
        numbers = numbers_put_in(self.graph[0], steps, tops, states)
        return [v for v, number in enumerate(numbers) if number == 1]


class Watch(Question):
    def __init__(self, graph, weights=None):
        Question.__init__(self, graph, (), ())
        self.weights = weights_of(graph[0], weights)

    def shared(self, state):
        return tuple([number == 2 for number in state])

    def joined(self, one, other):
        return [tuple([max(pair) for pair in zip(one, other)])]

    def put_in(self, state, spot, v):
        return [(with_number(state, spot, number), 0) for number in (0, 2)]

    def tied(self, state, one, other, tie):
        if sorted([state[one], state[other]]) != [0, 2]:
            return [(state, 0)]
        # One of the two is in the set, and from now on it looks over the other.
        return [(tuple([max(number, 1) if k in (one, other) else number for k, number in enumerate(state)]), 0)]

    def taken_out(self, state, spot, v):
        if state[spot] == 0:
            return []
        return [(without_number(state, spot), self.weights[v] if state[spot] == 2 else 0)]

    def thing(self, steps, tops, states):
        numbers = numbers_put_in(self.graph[0], steps, tops, states)
        return [v for v, number in enumerate(numbers) if number == 2]
