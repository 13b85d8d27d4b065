import copy
import random
import unittest

from bagwood.asks import Apart, Colours, Watch
from bagwood.bags import fault, meeting, rooted, sides, width
from bagwood.desk import Desk
from bagwood.families import cover, family, flaw, grown, settled
from bagwood.graphs import all_tied, around, graph, is_joined, pieces, rim, touch
from bagwood.least import costs, least_order, least_tree, least_width, start
from bagwood.links import Links
from bagwood.low import folds, four, wood
from bagwood.orders import filled, is_perfect, later, order_of, order_width, reached, tree_of
from bagwood.places import common, is_set, is_whole, joint, less
from bagwood.rounds import Rounds
from bagwood.steps import bags_of, steps_fault, steps_of
from bagwood.tables import answer, tables, trail
from bagwood.texts import read_bags, read_number, show_bags
from bagwood.tidy import tidied
from tests.helper import (PETERSEN, check_own, dense_worlds, drawn_steps, drawn_worlds, mixed_graphs, spoil,
                          subsets)


def fresh_graph():
    return (10, sorted(PETERSEN))


def fresh_trees():
    return [
        [(None, [])],
        [(None, [0, 1, 2])],
        [(None, [0, 1]), (0, [1, 2]), (1, [2, 3]), (0, [0, 4])],
        [(None, [0]), (0, [0]), (0, []), (2, []), (1, [0, 5])],
    ]


def drawn_questions(g, weights, costs, told):
    """A question of each kind; of a graph without places there are no links to ask for."""
    links = [Links(g, told, costs)] if told else []
    return [Colours(g, 3, weights), Apart(g, weights), Watch(g, weights), Rounds(g, costs)] + links


def drawn_amounts(chance, g):
    """Weights, costs and told places for the questions."""
    told = chance.sample(range(g[0]), min(g[0], chance.randint(1, 3)))
    return [[chance.randint(0, 9) for v in range(g[0])], [chance.randint(0, 9) for tie in g[1]], told]


class Own(unittest.TestCase):
    def test_places(self):
        for one in subsets(range(3)):
            for other in subsets(range(3)):
                for asked in (common, joint, less):
                    check_own(self, asked, list(one), list(other))
        check_own(self, is_set, 3, [0, 1])
        check_own(self, is_set, 3, [1, 0, 7])
        check_own(self, is_whole, [1, [2], {3: 4}])

    def test_graph(self):
        check_own(self, graph, 0, [])
        check_own(self, graph, 4, [(3, 2), (0, 1), (2, 3), (1, 0)])
        check_own(self, graph, 10, sorted(PETERSEN))

    def test_graphs(self):
        check_own(self, around, fresh_graph(), 7)
        for places in ([], [3], [0, 2, 3, 7], list(range(10))):
            for asked in (is_joined, pieces, rim, all_tied):
                check_own(self, asked, fresh_graph(), list(places))
            check_own(self, touch, fresh_graph(), list(places), [1, 2])

    def test_bags(self):
        for k, tree in enumerate(fresh_trees()):
            check_own(self, width, tree)
            check_own(self, fault, fresh_graph(), fresh_trees()[k])
            check_own(self, fault, (5, [(0, 1)]), fresh_trees()[k])
            check_own(self, meeting, fresh_trees()[k], [[0], [1, 2]])
            check_own(self, meeting, fresh_trees()[k], [])

    def test_rooted_and_sides(self):
        for k, tree in enumerate(fresh_trees()):
            for row in range(len(tree)):
                check_own(self, rooted, fresh_trees()[k], row)
            for row in range(1, len(tree)):
                check_own(self, sides, fresh_trees()[k], row)

    def test_tidied(self):
        for tree in fresh_trees() + [[(None, []), (0, [0]), (1, [0, 1]), (2, [0, 1])]]:
            check_own(self, tidied, tree)

    def test_orders(self):
        for k, g in enumerate(mixed_graphs()):
            order = list(range(g[0]))[::-1]
            for asked in (later, order_width, filled, is_perfect, tree_of):
                check_own(self, asked, mixed_graphs()[k], list(order))
            check_own(self, order_of, mixed_graphs()[k], tree_of(g, order))
        for gone in ([], [1], [0, 1, 2, 4, 9]):
            check_own(self, reached, fresh_graph(), gone, 7)

    def test_orders_that_fill_nothing(self):
        check_own(self, filled, (3, [(0, 1), (1, 2)]), [0, 1, 2])
        check_own(self, filled, (0, []), [])

    def test_least(self):
        for k in range(len(mixed_graphs())):
            for asked in (costs, least_width, least_order, least_tree):
                check_own(self, asked, mixed_graphs()[k])
        for places in ([], [3], [0, 2, 3, 7], list(range(10))):
            check_own(self, start, fresh_graph(), list(places))

    def test_families(self):
        for k in range(len(mixed_graphs())):
            for asked in (family, settled):
                check_own(self, asked, mixed_graphs()[k])
        for sets in ([], [[0]], [[0, 1], [0, 1], [1]], [[0, 1], [3]], [[0, 2]], [[9, 7], []]):
            check_own(self, flaw, fresh_graph(), sets)
        for sets in ([], [[3]], [[0, 1], [1, 2], [1, 2]], [[4, 5, 6], [7], [8, 9]]):
            check_own(self, cover, sets)

    def test_grown(self):
        whole = family(fresh_graph())
        for sets in ([], whole[:1], whole[:5] + whole[:2], whole):
            self.assertEqual(grown(fresh_graph(), sets)[0], "family")
            check_own(self, grown, fresh_graph(), [list(part) for part in sets])
        # With the three around it, the place 0 meets all that touches it: four places, as the width is.
        self.assertEqual(grown(fresh_graph(), [[0]])[0], "order")
        check_own(self, grown, fresh_graph(), [[0]])
        check_own(self, grown, (4, [(0, 1), (1, 2)]), [[3]])
        check_own(self, grown, (0, []), [])

    def test_low(self):
        for k in range(len(mixed_graphs())):
            for asked in (wood, folds, four):
                check_own(self, asked, mixed_graphs()[k])

    def test_steps(self):
        chance = random.Random(2)
        for g, rows in drawn_worlds(2, 40, 8, 8, 4):
            steps = drawn_steps(chance, g, rows)
            check_own(self, steps_of, copy.deepcopy(g), rows)
            check_own(self, bags_of, copy.deepcopy(g), list(steps))
            for some in (list(steps), steps[1:], steps[:-1], []):
                check_own(self, steps_fault, copy.deepcopy(g), some)
        check_own(self, steps_of, (0, []), [(None, [])])
        check_own(self, bags_of, (0, []), [("leaf",), ("leaf",), ("join",)])

    def test_questions(self):
        chance = random.Random(3)
        for g, rows in drawn_worlds(3, 15, 6, 8, 4) + dense_worlds(3, 5, 4, 5, 3, 1):
            steps = drawn_steps(chance, g, rows)
            amounts = drawn_amounts(chance, g)
            for kind in range(len(drawn_questions(g, *amounts))):
                for asked in (tables, trail):
                    check_own(self, lambda g, steps, amounts: asked(steps, drawn_questions(g, *amounts)[kind]),
                              copy.deepcopy(g), list(steps), copy.deepcopy(amounts))
                check_own(self, lambda g, rows, amounts: answer(rows, drawn_questions(g, *amounts)[kind]),
                          copy.deepcopy(g), copy.deepcopy(rows), copy.deepcopy(amounts))

    def test_one_question_asked_again(self):
        chance = random.Random(4)
        for g, rows in drawn_worlds(4, 15, 6, 8, 4) + dense_worlds(4, 5, 4, 5, 3, 1):
            steps = drawn_steps(chance, g, rows)
            for question in drawn_questions(g, *drawn_amounts(chance, g)):
                for asked in (tables, trail):
                    check_own(self, lambda steps: asked(steps, question), list(steps))
                check_own(self, lambda rows: answer(rows, question), copy.deepcopy(rows))

    def test_a_question_keeps_its_graph_and_what_goes_with_it(self):
        for kind in range(5):
            g, amounts = (3, [(0, 1), (0, 2), (1, 2)]), [[4, 5, 6], [7, 8, 9], [2, 0]]
            rows = [(None, [0, 1, 2])]
            steps = steps_of(g, rows)
            question = drawn_questions(g, *amounts)[kind]
            before = (answer(rows, question), tables(steps, question), trail(steps, question))
            self.assertEqual((g, amounts), ((3, [(0, 1), (0, 2), (1, 2)]), [[4, 5, 6], [7, 8, 9], [2, 0]]))
            g[1].pop()
            amounts[0][1] = 0
            amounts[1][1] = 100
            amounts[2][1] = 1
            self.assertEqual((answer(rows, question), tables(steps, question), trail(steps, question)), before)
            spoil(g)
            spoil(amounts)
            self.assertEqual((answer(rows, question), tables(steps, question), trail(steps, question)), before)

    def test_texts(self):
        names = ["a", "b", "c"]
        for text in ("-:", "-: c a; 0: b", "7: b; -: a"):
            check_own(self, read_bags, list(names), text)
            check_own(self, show_bags, list(names), read_bags(names, text))
        check_own(self, show_bags, [], [(None, [])])
        self.assertEqual([read_number("12"), read_number("12")], [12, 12])

    def test_desk(self):
        desk = Desk()
        for row in ("place a 1", "place b 2", "place c 3", "tie a b 1", "tie b c 2", "tie a c 4"):
            desk.say(row)
        rows = ["width", "bags", "family", "wood", "four", "colours 3", "apart", "watch", "link a c", "round"]
        before = [desk.say(row) for row in rows]
        self.assertEqual([desk.say(row) for row in rows[::-1]], before[::-1])
        self.assertEqual([desk.say(row) for row in rows], before)

    def test_two_questions_of_one_graph(self):
        g, weights = (2, [(0, 1)]), [4, 5]
        rows = [(None, [0, 1])]
        one, other = Apart(g, weights), Apart(g, [9, 1])
        self.assertEqual((answer(rows, one), answer(rows, other), answer(rows, one)),
                         ((3, 5, [1]), (3, 9, [0]), (3, 5, [1])))

    def test_faulty_rows(self):
        for rows in ([], [(0, [0])], [(None, [2, 1])], [(None, [0, 0]), (5, [99])]):
            check_own(self, fault, (3, [(0, 1)]), rows)

    def test_one_list_handed_in_twice(self):
        bag = [0, 1]
        told = rooted([(None, bag), (0, bag)], 1)
        told[0][1].append(2)
        self.assertEqual(told, [(None, [0, 1, 2]), (0, [0, 1])])
        self.assertEqual(bag, [0, 1])
        first, second = sides([(None, bag), (0, bag)], 1)
        first.append(2)
        self.assertEqual((first, second, bag), ([0, 1, 2], [0, 1], [0, 1]))
        part = [0]
        kind, sets = grown((2, [(0, 1)]), [part, part])
        sets[0].append(1)
        self.assertEqual((kind, sets[:2], part), ("family", [[0, 1], [0]], [0]))

    def test_what_was_asked_before_hinders_nothing(self):
        g = fresh_graph()
        before = pieces(g, [0, 1, 3])
        g[1].remove((0, 1))
        self.assertEqual(before, [[0, 1], [3]])
        self.assertEqual(pieces(g, [0, 1, 3]), [[0], [1], [3]])
        tree = [(None, [0, 1]), (0, [2])]
        before = tidied(tree)
        tree[0][1].append(2)
        self.assertEqual(before, [(None, [0, 1]), (0, [2])])
        self.assertEqual(tidied(tree), [(None, [0, 1, 2])])

    def test_a_graph_changed_behind_the_call_is_asked_anew(self):
        g = (4, [(0, 1), (0, 2), (0, 3), (1, 2), (1, 3), (2, 3)])
        before = settled(g)
        self.assertEqual((before[0], least_width(g), costs(g)[1]), (3, 3, 3))
        g[1].clear()
        self.assertEqual((before[0], before[1]), (3, [(None, [0, 1, 2, 3])]))
        self.assertEqual((settled(g)[0], least_width(g), costs(g)[1]), (0, 0, 0))
        self.assertEqual((later(g, [0, 1, 2, 3]), reached(g, [], 0)), ([[], [], [], []], []))


if __name__ == "__main__":
    unittest.main()
