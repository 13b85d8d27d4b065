import unittest

from bagwood.bags import fault, meeting, rooted, sides, width
from bagwood.graphs import all_tied, around, graph, is_joined, pieces, rim, touch
from bagwood.places import common, is_set, is_whole, joint, less
from tests.helper import PETERSEN, check_own, subsets


def fresh_graph():
    return (10, sorted(PETERSEN))


def fresh_trees():
    return [
        [(None, [])],
        [(None, [0, 1, 2])],
        [(None, [0, 1]), (0, [1, 2]), (1, [2, 3]), (0, [0, 4])],
        [(None, [0]), (0, [0]), (0, []), (2, []), (1, [0, 5])],
    ]


class Own(unittest.TestCase):
    def test_places(self):
        for one in subsets(range(3)):
            for other in subsets(range(3)):
                for asked in (common, joint, less):
                    check_own(self, asked, list(one), list(other))
        check_own(self, is_set, 3, [0, 1])
        check_own(self, is_set, 3, [1, 0, 7])
        check_own(self, is_whole, [1, [2], {3: 4}])

    def test_graph(self):
        check_own(self, graph, 0, [])
        check_own(self, graph, 4, [(3, 2), (0, 1), (2, 3), (1, 0)])
        check_own(self, graph, 10, sorted(PETERSEN))

    def test_graphs(self):
        check_own(self, around, fresh_graph(), 7)
        for places in ([], [3], [0, 2, 3, 7], list(range(10))):
            for asked in (is_joined, pieces, rim, all_tied):
                check_own(self, asked, fresh_graph(), list(places))
            check_own(self, touch, fresh_graph(), list(places), [1, 2])

    def test_bags(self):
        for k, tree in enumerate(fresh_trees()):
            check_own(self, width, tree)
            check_own(self, fault, fresh_graph(), fresh_trees()[k])
            check_own(self, fault, (5, [(0, 1)]), fresh_trees()[k])
            check_own(self, meeting, fresh_trees()[k], [[0], [1, 2]])
            check_own(self, meeting, fresh_trees()[k], [])

    def test_rooted_and_sides(self):
        for k, tree in enumerate(fresh_trees()):
            for row in range(len(tree)):
                check_own(self, rooted, fresh_trees()[k], row)
            for row in range(1, len(tree)):
                check_own(self, sides, fresh_trees()[k], row)

    def test_faulty_rows(self):
        for rows in ([], [(0, [0])], [(None, [2, 1])], [(None, [0, 0]), (5, [99])]):
            check_own(self, fault, (3, [(0, 1)]), rows)

    def test_one_list_handed_in_twice(self):
        bag = [0, 1]
        told = rooted([(None, bag), (0, bag)], 1)
        told[0][1].append(2)
        self.assertEqual(told, [(None, [0, 1, 2]), (0, [0, 1])])
        self.assertEqual(bag, [0, 1])
        first, second = sides([(None, bag), (0, bag)], 1)
        first.append(2)
        self.assertEqual((first, second, bag), ([0, 1, 2], [0, 1], [0, 1]))

    def test_what_was_asked_before_hinders_nothing(self):
        g = fresh_graph()
        before = pieces(g, [0, 1, 3])
        g[1].remove((0, 1))
        self.assertEqual(before, [[0, 1], [3]])
        self.assertEqual(pieces(g, [0, 1, 3]), [[0], [1], [3]])


if __name__ == "__main__":
    unittest.main()
