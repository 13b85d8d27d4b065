"""Answers to questions, found by going up along steps: the one way for all questions."""

from bagwood.places import joint
from bagwood.steps import refuse_wide, run_whole, steps_of


def tables(steps, question):
    tops, feeds = run_narrow(question.graph, steps)
    return [without_sources(table) for table in going_up(steps, question, tops, feeds)]


def without_sources(table):
    return dict([(state, (row[0], row[1])) for state, row in table.items()])


def trail(steps, question):
    tops, feeds = run_narrow(question.graph, steps)
    return states_down(feeds, going_up(steps, question, tops, feeds), question.whole)


def answer(tree, question):
    steps = steps_of(question.graph, tree)
    tops, feeds = run_whole(question.graph, steps)
    told = going_up(steps, question, tops, feeds)
    states = states_down(feeds, told, question.whole)
    if states is None:
        return (0, None, None)
    many, best, sources = told[-1][states[-1]]
    return (many, best, question.thing(steps, tops, states))


def run_narrow(graph, steps):
    tops, feeds = run_whole(graph, steps)
    refuse_wide(tops)
    return (tops, feeds)


def going_up(steps, question, tops, feeds):
    """For each step a dict with (many, best, sources) for each state.

    The sources are states of the bags on which the step works, of which the best amount comes.
    """
    told = []
    for step, bag, used in zip(steps, tops, feeds):
        table = {}
        if not used:
            table[question.leaf] = (1, 0, ())
        elif step[0] == "join":
            fill_joined(question, table, told[used[0]], told[used[1]])
        else:
            fill_along(question, table, told[used[0]], step, joint(bag, tops[used[0]]))
        told.append(table)
    return told


def fill_along(question, table, source, step, bag):
    for old, row in source.items():
        for state, amount in states_behind(question, old, step, bag):
            note(question, table, state, (row[0], row[1] + amount, (old,)))


def states_behind(question, old, step, bag):
    """What a state becomes by the step; the bag is the greater one of those ahead of the step and behind it."""
    spot = bag.index(step[1])
    if step[0] == "in":
        return question.put_in(old, spot, step[1])
    if step[0] == "out":
        return question.taken_out(old, spot, step[1])
    return question.tied(old, spot, bag.index(step[2]), step[1:])


def fill_joined(question, table, source, another):
    alike = {}
    for other in another:
        alike.setdefault(question.shared(other), []).append(other)
    for one, row in source.items():
        for other in alike.get(question.shared(one), []):
            more = another[other]
            for state in question.joined(one, other):
                note(question, table, state, (row[0] * more[0], row[1] + more[1], (one, other)))


def note(question, table, state, row):
    """Adds up the number of part-things, and keeps the better amount with its sources."""
    if state in table:
        old = table[state]
        better = row if question.is_better(row[1], old[1]) else old
        row = (old[0] + row[0], better[1], better[2])
    table[state] = row


def states_down(feeds, told, state):
    """One state for each step, of the best thing that ends with this state; None where there is none."""
    if state not in told[-1]:
        return None
    states = [None for table in told]
    states[-1] = state
    for k in range(len(told) - 1, -1, -1):
        for j, source in zip(feeds[k], told[k][states[k]][2]):
            states[j] = source
    return states
