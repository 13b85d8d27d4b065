import itertools
import unittest

from bagwood.places import common, is_set, is_whole, joint, less
from tests.helper import BIG, subsets


class Whole(unittest.TestCase):
    def test_whole_numbers(self):
        for thing in [0, 1, -1, 10, BIG, -BIG]:
            self.assertIs(is_whole(thing), True, thing)

    def test_truths_are_none(self):
        self.assertIs(is_whole(True), False)
        self.assertIs(is_whole(False), False)

    def test_other_kinds(self):
        for thing in [None, "", "1", 1.0, 0.5, float("nan"), b"1", 1j, [], [1], (), (1,), {}, {1: 1}, {1},
                      int, len, object(), ValueError("1")]:
            self.assertIs(is_whole(thing), False, thing)


class Sets(unittest.TestCase):
    def test_every_short_list(self):
        for n in range(4):
            for size in range(4):
                for places in itertools.product(range(-1, 5), repeat=size):
                    right = list(places) in subsets(range(n))
                    self.assertIs(is_set(n, list(places)), right, (n, places))

    def test_none_and_all(self):
        for n in range(11):
            self.assertIs(is_set(n, []), True)
            self.assertIs(is_set(n, list(range(n))), True)
            self.assertIs(is_set(n, list(range(n + 1))), False)
            self.assertIs(is_set(n, [n]), False)
            self.assertIs(is_set(n, [-1]), False)

    def test_order_and_doubles(self):
        self.assertIs(is_set(10, [0, 3, 9]), True)
        self.assertIs(is_set(10, [3, 0, 9]), False)
        self.assertIs(is_set(10, [0, 9, 3]), False)
        self.assertIs(is_set(10, [0, 3, 3, 9]), False)
        self.assertIs(is_set(10, [0, 0]), False)
        self.assertIs(is_set(10, [0, 3, 9, 10]), False)

    def test_great_numbers(self):
        for places in [[BIG], [-BIG], [0, BIG], [-BIG, 0], [-BIG, BIG]]:
            self.assertIs(is_set(10, places), False, places)


class Both(unittest.TestCase):
    def test_every_two_sets(self):
        every = subsets(range(5))
        for one in every:
            for other in every:
                self.assertEqual(common(one, other), [v for v in range(5) if v in one and v in other])
                self.assertEqual(joint(one, other), [v for v in range(5) if v in one or v in other])
                self.assertEqual(less(one, other), [v for v in range(5) if v in one and v not in other])

    def test_ten_places(self):
        one = [0, 2, 4, 6, 8, 9]
        other = [1, 2, 3, 6, 7, 9]
        self.assertEqual(common(one, other), [2, 6, 9])
        self.assertEqual(joint(one, other), list(range(5)) + [6, 7, 8, 9])
        self.assertEqual(less(one, other), [0, 4, 8])
        self.assertEqual(less(other, one), [1, 3, 7])

    def test_told_rising_where_python_sets_are_not(self):
        one = [1, 8, 64]
        other = [2, 16, 33]
        self.assertEqual(joint(one, other), [1, 2, 8, 16, 33, 64])
        self.assertEqual(joint(other, one), [1, 2, 8, 16, 33, 64])

    def test_kinds(self):
        for asked in (common, joint, less):
            self.assertIsInstance(asked([], []), list)
            self.assertEqual(asked([], []), [])


if __name__ == "__main__":
    unittest.main()
