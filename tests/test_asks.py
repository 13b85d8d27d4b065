import random
import unittest

from bagwood.asks import Apart, Colours, Question, Watch
from bagwood.bags import rooted
from bagwood.errors import NoColours, NoTree, NoWeights, TooWide
from bagwood.graphs import graph
from bagwood.least import least_tree, least_width
from bagwood.orders import tree_of
from bagwood.tables import answer
from tests.helper import (BIG, SlowApart, SlowColours, SlowWatch, all_graphs, all_pairs, check_answer, check_refused,
                          drawn_worlds, great_graphs, mixed_graphs, wrong_amounts)

MOST = 10 ** 30 - 1
STAR = graph(10, [(0, v) for v in range(1, 10)])
RING = graph(10, [(v, (v + 1) % 10) for v in range(10)])


def drawn_weights(chance, n):
    return [chance.choice([0, 1, 2, 5, chance.randint(0, MOST), MOST]) for v in range(n)]


def narrow_graphs():
    return [g for g in mixed_graphs() + great_graphs() if least_width(g) <= 3]


class Answers(unittest.TestCase):
    def test_told_cases(self):
        self.assertEqual(answer(least_tree(STAR), Apart(STAR)), (513, 9, list(range(1, 10))))
        self.assertEqual(answer(least_tree(STAR), Watch(STAR)), (513, 1, [0]))
        self.assertEqual(answer(least_tree(STAR), Colours(STAR, 2)), (2, 1, [1] + [0] * 9))
        self.assertEqual(answer(least_tree(RING), Colours(RING, 2))[:2], (2, 5))
        self.assertEqual(answer(least_tree(RING), Colours(RING, 3))[:2], (2 ** 10 + 2, 5))
        self.assertEqual(answer(least_tree(RING), Apart(RING))[:2], (123, 5))
        self.assertEqual(answer([(None, [0, 1])], Apart((2, [(0, 1)]), [3, 8])), (3, 8, [1]))
        self.assertEqual(answer([(None, [0, 1])], Watch((2, [(0, 1)]), [3, 8])), (3, 3, [0]))
        self.assertEqual(answer([(None, [0, 1])], Colours((2, [(0, 1)]), 4, [3, 8])), (12, 3, [1, 0]))

    def test_no_place(self):
        for question in (Colours((0, []), 0), Colours((0, []), 4, []), Apart((0, [])), Watch((0, []), [])):
            for tree in ([(None, [])], [(None, []), (0, []), (0, []), (1, [])]):
                self.assertEqual(answer(tree, question), (1, 0, []))

    def test_no_thing(self):
        self.assertEqual(answer([(None, [0])], Colours((1, []), 0)), (0, None, None))
        self.assertEqual(answer([(None, [0, 1])], Colours((2, [(0, 1)]), 1)), (0, None, None))
        self.assertEqual(answer([(None, [0, 1])], Colours((2, []), 1)), (1, 0, [0, 0]))
        whole = graph(4, all_pairs(4))
        self.assertEqual(answer([(None, [0, 1, 2, 3])], Colours(whole, 3)), (0, None, None))
        self.assertEqual(answer([(None, [0, 1, 2, 3])], Colours(whole, 4))[:2], (24, 6))

    def test_weights_of_nought_and_of_thirty_figures(self):
        g = (3, [(0, 1), (1, 2)])
        tree = [(None, [0, 1]), (0, [1, 2])]
        self.assertEqual(answer(tree, Apart(g, [0, 0, 0]))[:2], (5, 0))
        self.assertEqual(answer(tree, Watch(g, [0, 0, 0]))[:2], (5, 0))
        self.assertEqual(answer(tree, Apart(g, [MOST, 1, MOST])), (5, 2 * MOST, [0, 2]))
        self.assertEqual(answer(tree, Watch(g, [MOST, MOST, MOST])), (5, MOST, [1]))
        self.assertEqual(answer(tree, Watch(g, [0, MOST, 0])), (5, 0, [0, 2]))
        self.assertEqual(answer(tree, Colours(g, 3, [MOST, MOST, MOST])), (12, MOST, [0, 1, 0]))
        self.assertEqual(answer(tree, Apart(g, None)), answer(tree, Apart(g, [1, 1, 1])))

    def test_every_small_graph(self):
        chance = random.Random(33)
        for g in all_graphs(4):
            weights = chance.choice([None, drawn_weights(chance, g[0])])
            for tree in (least_tree(g), tree_of(g, list(range(g[0])))):
                for many in range(5):
                    check_answer(self, SlowColours(g, many, weights), Colours(g, many, weights), g, tree)
                check_answer(self, SlowApart(g, weights), Apart(g, weights), g, tree)
                check_answer(self, SlowWatch(g, weights), Watch(g, weights), g, tree)

    def test_greater_graphs(self):
        chance = random.Random(36)
        for g in narrow_graphs():
            weights = drawn_weights(chance, g[0])
            tree = rooted(least_tree(g), chance.randrange(len(least_tree(g))))
            check_answer(self, SlowApart(g, weights), Apart(g, weights), g, tree)
            check_answer(self, SlowWatch(g, weights), Watch(g, weights), g, tree)
            for many in range(5 if g[0] <= 6 else 3):
                check_answer(self, SlowColours(g, many, weights), Colours(g, many, weights), g, tree)

    def test_trees_of_many_rows(self):
        chance = random.Random(37)
        for most in (1, 2, 3, 4):
            for g, tree in drawn_worlds(50 + most, 20, 7, 24, most):
                weights = drawn_weights(chance, g[0])
                check_answer(self, SlowApart(g, weights), Apart(g, weights), g, tree)
                check_answer(self, SlowWatch(g, weights), Watch(g, weights), g, tree)
                check_answer(self, SlowColours(g, 3, weights), Colours(g, 3, weights), g, tree)

    def test_each_tree_gives_the_same(self):
        chance = random.Random(38)
        for g, tree in drawn_worlds(38, 30, 10, 20, 4):
            weights = drawn_weights(chance, g[0])
            for question in (Colours(g, 4, weights), Apart(g, weights), Watch(g, weights)):
                told = [answer(some, question) for some in (tree, least_tree(g), rooted(tree, len(tree) - 1))]
                self.assertEqual([one[:2] for one in told], [told[0][:2]] * 3)
                self.assertEqual(answer(tree, question), told[0])

    def test_one_question_stays_as_it_is_behind_a_refusal(self):
        question = Apart((5, []), [1, 2, 3, 4, 5])
        check_refused(self, NoTree, lambda rows: answer(rows, question), [(None, [0])])
        check_refused(self, TooWide, lambda rows: answer(rows, question), [(None, [0, 1, 2, 3, 4])])
        tree = [(None, [])] + [(0, [v]) for v in range(5)]
        self.assertEqual(answer(tree, question), (32, 15, [0, 1, 2, 3, 4]))


class Questions(unittest.TestCase):
    def test_the_base(self):
        for question in (Colours((1, []), 2), Apart((1, [])), Watch((1, []))):
            self.assertIsInstance(question, Question)
        for one in (Colours, Apart, Watch):
            self.assertFalse(any(issubclass(one, other) for other in (Colours, Apart, Watch) if other is not one))

    def test_arguments(self):
        g = (1, [])
        tree = [(None, [0])]
        self.assertEqual(answer(tree, Colours(graph=g, many=2, weights=[3])), (2, 0, [0]))
        self.assertEqual(answer(tree, Apart(graph=g, weights=[3])), (2, 3, [0]))
        self.assertEqual(answer(tree, Watch(graph=g, weights=[3])), (1, 3, [0]))
        self.assertEqual(answer(tree=tree, question=Watch(g)), (1, 1, [0]))

    def test_no_colours(self):
        wrong = (-1, 5, 6, 100, BIG, -BIG, True, False, None, "2", "", 2.0, 3.5, [2], (2,), {}, [], object())
        for many in wrong:
            for weights in (None, [1, 1], [], [1, 2, 3], [-1, 0], [10 ** 30, 1]):
                for g in ((0, []), (2, []), (2, [(0, 1)])):
                    with self.assertRaises(NoColours) as taken:
                        Colours(g, many, weights)
                    self.assertIs(taken.exception.__class__, NoColours)

    def test_no_weights(self):
        for n in (0, 1, 3, 10):
            for weights in wrong_amounts(n):
                check_refused(self, NoWeights, Apart, (n, []), weights)
                check_refused(self, NoWeights, Watch, (n, []), weights)
                check_refused(self, NoWeights, Colours, (n, []), 3, weights)
                check_refused(self, NoWeights, Colours, (n, []), 0, weights)
            for weights in ([0] * n, [MOST] * n):
                for question in (Apart((n, []), weights), Watch((n, []), weights), Colours((n, []), 1, weights)):
                    self.assertIsInstance(question, Question)

    def test_wrong_trees(self):
        g = (6, [(0, 1)])
        five = [(None, [0, 1]), (0, [0, 1, 2, 3, 4]), (1, [5])]
        for question in (Colours(g, 0), Colours(g, 4), Apart(g), Watch(g, [0] * 6)):
            check_refused(self, TooWide, lambda rows: answer(rows, question), five)
            for rows in ([], five[:2], five + [(2, [0])], [(None, [0])] + five[1:2] + [(0, [5])] + [(2, [1])],
                         [(1, [0, 1])] + five[1:], five + [(7, [])], five[:2] + [(1, [5, 4])],
                         five[:2] + [(1, [5, BIG])], five[:2] + [(1, [-BIG, 5])], [(None, [])],
                         [(None, [0])] + [(k, [k + 1]) for k in range(5)]):
                check_refused(self, NoTree, lambda rows: answer(rows, question), rows)
        # What is a tree of bags of one graph is none of another one.
        self.assertEqual(answer([(None, [0]), (0, [1])], Apart((2, [])))[0], 4)
        check_refused(self, NoTree, lambda rows: answer(rows, Apart((2, [(0, 1)]))), [(None, [0]), (0, [1])])


if __name__ == "__main__":
    unittest.main()
