import random
import unittest

from bagwood.asks import Apart, Colours, Watch
from bagwood.errors import NoSteps, TooWide
from bagwood.steps import steps_of
from bagwood.tables import tables, trail
from tests.helper import (BIG, SlowApart, SlowColours, SlowWatch, all_graphs, all_pairs, check_refused, check_tables,
                          drawn_steps, drawn_worlds)

LEAF, JOIN = ("leaf",), ("join",)
TIED = [LEAF, ("in", 0), ("in", 1), ("tie", 0, 1), ("out", 0), ("out", 1)]
ONE_TIE = (2, [(0, 1)])
MOST = 10 ** 30 - 1


def drawn_weights(chance, n):
    return [chance.choice([0, 1, 2, 3, 7, MOST, MOST - 1]) for v in range(n)]


def questions(g, weights):
    told = [(SlowColours(g, many, weights), Colours(g, many, weights)) for many in range(4)]
    return told + [(SlowApart(g, weights), Apart(g, weights)), (SlowWatch(g, weights), Watch(g, weights))]


class Tables(unittest.TestCase):
    def test_told_cases(self):
        self.assertEqual(tables([LEAF], Colours((0, []), 3)), [{(): (1, 0)}])
        self.assertEqual(tables(TIED, Colours(ONE_TIE, 2, [5, 7])), [
            {(): (1, 0)}, {(0,): (1, 0), (1,): (1, 0)},
            {(0, 0): (1, 0), (0, 1): (1, 0), (1, 0): (1, 0), (1, 1): (1, 0)},
            {(0, 1): (1, 0), (1, 0): (1, 0)}, {(1,): (1, 0), (0,): (1, 5)}, {(): (2, 5)}])
        self.assertEqual(tables(TIED, Apart(ONE_TIE, [5, 7])), [
            {(): (1, 0)}, {(0,): (1, 0), (1,): (1, 0)},
            {(0, 0): (1, 0), (0, 1): (1, 0), (1, 0): (1, 0), (1, 1): (1, 0)},
            {(0, 0): (1, 0), (0, 1): (1, 0), (1, 0): (1, 0)}, {(0,): (2, 5), (1,): (1, 0)}, {(): (3, 7)}])
        self.assertEqual(tables(TIED, Watch(ONE_TIE, [5, 7])), [
            {(): (1, 0)}, {(0,): (1, 0), (2,): (1, 0)},
            {(0, 0): (1, 0), (0, 2): (1, 0), (2, 0): (1, 0), (2, 2): (1, 0)},
            {(0, 0): (1, 0), (1, 2): (1, 0), (2, 1): (1, 0), (2, 2): (1, 0)},
            {(2,): (2, 0), (1,): (1, 5)}, {(): (3, 5)}])

    def test_no_colours(self):
        told = tables(TIED, Colours(ONE_TIE, 0))
        self.assertEqual(told, [{(): (1, 0)}, {}, {}, {}, {}, {}])
        self.assertIsNone(trail(TIED, Colours(ONE_TIE, 0)))
        self.assertEqual(tables([LEAF], Colours((0, []), 0)), [{(): (1, 0)}])
        self.assertEqual(trail([LEAF], Colours((0, []), 0)), [()])

    def test_a_join_of_bags_without_places(self):
        for question in (Colours((1, []), 2), Apart((1, []), [3]), Watch((1, []), [3])):
            plain = [LEAF, ("in", 0), ("out", 0)]
            once = tables(plain, question)
            self.assertEqual(tables(plain + [LEAF, JOIN], question), once + [{(): (1, 0)}, once[-1]])
            self.assertEqual(tables([LEAF] + plain + [JOIN], question), [{(): (1, 0)}] + once + [once[-1]])

    def test_two_branches_each_with_an_amount(self):
        steps = [LEAF, ("in", 0), ("out", 0), LEAF, ("in", 1), ("out", 1), JOIN]
        self.assertEqual(tables(steps, Apart((2, []), [3, 4]))[-1], {(): (4, 7)})
        self.assertEqual(tables(steps, Watch((2, []), [3, 4]))[-1], {(): (1, 7)})
        self.assertEqual(tables(steps, Colours((2, []), 3, [3, 4]))[-1], {(): (9, 0)})

    def test_one_looks_over_another_in_one_branch_alone(self):
        steps = [LEAF, ("in", 0), ("in", 1), ("tie", 0, 1), LEAF, ("in", 1), ("in", 0), JOIN, ("out", 0), ("out", 1)]
        told = tables(steps, Watch(ONE_TIE))
        self.assertEqual(told[7], {(0, 0): (1, 0), (1, 2): (1, 0), (2, 1): (1, 0), (2, 2): (1, 0)})
        check_tables(self, SlowWatch(ONE_TIE), Watch(ONE_TIE), ONE_TIE, steps)

    def test_every_small_graph(self):
        chance = random.Random(34)
        for g in all_graphs(4):
            tree = [(None, list(range(g[0])))]
            for slow, question in questions(g, drawn_weights(chance, g[0])):
                check_tables(self, slow, question, g, steps_of(g, tree))

    def test_drawn_steps(self):
        chance = random.Random(35)
        for most in (1, 2, 3, 4):
            for g, rows in drawn_worlds(35 + most, 25, 6, 6, most):
                steps = drawn_steps(chance, g, rows)
                for slow, question in questions(g, chance.choice([None, drawn_weights(chance, g[0])])):
                    check_tables(self, slow, question, g, steps)

    def test_steps_of_trees(self):
        chance = random.Random(36)
        for g, rows in drawn_worlds(36, 25, 6, 20, 4):
            for slow, question in questions(g, drawn_weights(chance, g[0])):
                check_tables(self, slow, question, g, steps_of(g, rows))

    def test_four_colours(self):
        chance = random.Random(37)
        for g, rows in drawn_worlds(37, 12, 5, 5, 4):
            weights = drawn_weights(chance, g[0])
            check_tables(self, SlowColours(g, 4, weights), Colours(g, 4, weights), g, drawn_steps(chance, g, rows))

    def test_great_weights(self):
        for kind, slow in ((Apart, SlowApart), (Watch, SlowWatch)):
            check_tables(self, slow(ONE_TIE, [MOST, MOST]), kind(ONE_TIE, [MOST, MOST]), ONE_TIE, TIED)
        self.assertEqual(tables(TIED, Colours(ONE_TIE, 4, [MOST, 0]))[4][(0,)], (3, MOST))
        self.assertEqual(tables(TIED, Colours(ONE_TIE, 4, [MOST, MOST]))[-1], {(): (12, MOST)})

    def test_many_steps(self):
        ins = [LEAF] + [("in", v) for v in range(4)]
        steps = ins + (ins + [JOIN]) * 64 + [("tie",) + tie for tie in all_pairs(4)] + [("out", v) for v in range(4)]
        g = (4, all_pairs(4))
        self.assertEqual(len(steps), 399)
        self.assertEqual(tables(steps, Colours(g, 4))[-1], {(): (24, 6)})
        self.assertEqual(tables(steps, Apart(g))[-1], {(): (5, 1)})
        self.assertEqual(tables(steps, Watch(g))[-1], {(): (15, 1)})


class Trail(unittest.TestCase):
    def test_told_cases(self):
        self.assertEqual(trail(TIED, Apart(ONE_TIE, [5, 7])), [(), (0,), (0, 1), (0, 1), (1,), ()])
        self.assertEqual(trail(TIED, Watch(ONE_TIE, [5, 7])), [(), (2,), (2, 0), (2, 1), (1,), ()])
        self.assertEqual(trail(TIED, Colours(ONE_TIE, 2, [5, 7])), [(), (1,), (1, 0), (1, 0), (0,), ()])
        self.assertEqual(trail([LEAF, LEAF, JOIN], Apart((0, []))), [(), (), ()])

    def test_no_thing(self):
        steps = [LEAF] + [("in", v) for v in range(3)] + [("tie",) + tie for tie in all_pairs(3)]
        steps += [("out", v) for v in range(3)]
        self.assertIsNone(trail(steps, Colours((3, all_pairs(3)), 2)))
        self.assertEqual(tables(steps, Colours((3, all_pairs(3)), 2))[-1], {})
        self.assertIsNotNone(trail(steps, Colours((3, all_pairs(3)), 3)))


class Refusals(unittest.TestCase):
    def questions(self, g):
        return [Colours(g, 0), Colours(g, 4), Apart(g), Watch(g)]

    def test_steps_that_do_not_fit(self):
        for g, steps in ((ONE_TIE, []), ((0, []), []), (ONE_TIE, TIED[:-1]), (ONE_TIE, TIED + TIED[-1:]),
                         ((3, [(0, 1)]), TIED), (ONE_TIE, TIED[:3] + TIED[4:]), ((2, []), TIED),
                         (ONE_TIE, TIED + [JOIN]), ((1, []), [LEAF]), ((1, []), [LEAF, ("in", BIG), ("out", BIG)])):
            for question in self.questions(g):
                for asked in (tables, trail):
                    check_refused(self, NoSteps, lambda steps: asked(steps, question), steps)

    def test_too_wide(self):
        for n in range(5, 11):
            steps = [LEAF] + [("in", v) for v in range(n)] + [("out", v) for v in range(n)]
            for question in self.questions((n, [])):
                for asked in (tables, trail):
                    check_refused(self, TooWide, lambda steps: asked(steps, question), steps)
                    # Steps that do not fit are refused for that first.
                    check_refused(self, NoSteps, lambda steps: asked(steps, question), steps[:-1])
                    check_refused(self, NoSteps, lambda steps: asked(steps, question), steps + [JOIN])

    def test_a_wide_bag_low_on_the_pile(self):
        wide = [LEAF] + [("in", v) for v in range(5)]
        narrow = [LEAF] + [("in", v) for v in range(5, 9)] + [("out", v) for v in range(5, 9)]
        outs = [("out", v) for v in range(5)]
        for steps in (wide + narrow + outs, wide + outs + narrow + [JOIN], narrow + wide + outs + [JOIN]):
            refusal = NoSteps if steps == wide + narrow + outs else TooWide
            check_refused(self, refusal, lambda steps: tables(steps, Apart((9, []))), steps)
            check_refused(self, refusal, lambda steps: trail(steps, Apart((9, []))), steps)

    def test_four_places_are_not_too_many(self):
        steps = [LEAF] + [("in", v) for v in range(4)] + [("out", v) for v in range(4)]
        for question in self.questions((4, [])):
            self.assertEqual(len(tables(steps, question)), 9)


if __name__ == "__main__":
    unittest.main()
