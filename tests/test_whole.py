"""Points 3 and 29, over the whole program."""

import random
import unittest

from bagwood.asks import Apart, Colours, Watch
from bagwood.bags import fault, meeting, rooted, width
from bagwood.families import cover, flaw, settled
from bagwood.least import least_order, least_tree
from bagwood.links import Links
from bagwood.low import folds, four, wood
from bagwood.orders import tree_of
from bagwood.rounds import Rounds
from bagwood.steps import bags_of, steps_of
from bagwood.tables import answer, tables, trail
from tests.helper import (SlowApart, SlowColours, SlowLinks, SlowRounds, SlowWatch, all_graphs, check_answer,
                          dense_worlds, drawn_graphs, drawn_worlds, great_graphs, mixed_graphs)


def asked(chance, g):
    """Each question with a count of the test's own; of a graph without places there are no links to ask for."""
    weights = [chance.randint(0, 10 ** 6) for v in range(g[0])]
    costs = [chance.randint(0, 10 ** 6) for tie in g[1]]
    told = [(SlowColours(g, 3, weights), Colours(g, 3, weights)), (SlowApart(g, weights), Apart(g, weights)),
            (SlowWatch(g, weights), Watch(g, weights)), (SlowRounds(g, costs), Rounds(g, costs))]
    if g[0]:
        ends = chance.sample(range(g[0]), min(g[0], 2))
        told.append((SlowLinks(g, ends, costs), Links(g, ends, costs)))
    return told


class Whole(unittest.TestCase):
    def test_a_tree_and_a_family_that_shows_why_no_less_will_do(self):
        for g in all_graphs(4) + mixed_graphs() + great_graphs() + drawn_graphs(3, 60, 0, 10):
            least, tree, sets = settled(g)
            self.assertIsNone(fault(g, tree))
            self.assertEqual(width(tree), least)
            self.assertLessEqual(len(tree), max(1, g[0]))
            self.assertIsNone(flaw(g, sets))
            self.assertEqual(len(cover(sets)), least + 1)
            # In each tree of bags a bag meets all parts, so it has as many places as a cover at least.
            for other in (tree, tree_of(g, list(range(g[0]))), [(None, list(range(g[0])))]):
                self.assertGreaterEqual(len(other[meeting(other, sets)][1]), least + 1)
            self.assertEqual(wood(g)[0] == "wood", least <= 1)
            self.assertEqual(folds(g)[1] == [], least <= 2)
            self.assertEqual(four(g) is None, least <= 2)

    def test_no_thing_is_better_and_each_tree_gives_the_same(self):
        chance = random.Random(33)
        for g, tree in drawn_worlds(33, 30, 5, 12, 4) + dense_worlds(33, 8, 4, 5, 4, 3):
            trees = [tree, least_tree(g), rooted(tree, chance.randrange(len(tree))), tree_of(g, least_order(g))]
            for slow, question in asked(chance, g):
                told = [check_answer(self, slow, question, g, some)[:2] for some in trees]
                self.assertEqual(told, told[:1] * 4)

    def test_the_bags_of_the_steps_of_a_tree_give_the_same_again(self):
        chance = random.Random(34)
        for g, tree in drawn_worlds(34, 15, 8, 12, 4):
            steps = steps_of(g, tree)
            rows = bags_of(g, steps)
            for slow, question in asked(chance, g):
                many, best, thing = answer(tree, question)
                last = tables(steps, question)[-1]
                states = trail(steps, question)
                self.assertEqual(states is None, many == 0)
                if many:
                    self.assertEqual(last[states[-1]], (many, best))
                if len(rows) <= 30:
                    self.assertEqual(answer(rows, question)[:2], (many, best))


if __name__ == "__main__":
    unittest.main()
