import unittest

from bagwood import errors

NAMES = ["NoGraph", "NoPlace", "NoTie", "NoBag", "NoTree", "NoOrder", "NoPart", "NoSteps", "TooWide",
         "NoColours", "NoWeights", "NoNumber", "NoName", "NoText", "NoRow"]


class Errors(unittest.TestCase):
    def test_base(self):
        self.assertEqual(errors.BagError.__bases__, (ValueError,))

    def test_each_stands_straight_under_the_base(self):
        for name in NAMES:
            refusal = getattr(errors, name)
            self.assertEqual(refusal.__name__, name)
            self.assertEqual(refusal.__bases__, (errors.BagError,))

    def test_none_is_under_another(self):
        for one in NAMES:
            for other in NAMES:
                under = issubclass(getattr(errors, one), getattr(errors, other))
                self.assertEqual(under, one == other, (one, other))

    def test_each_is_raised_and_taken(self):
        for name in NAMES:
            with self.assertRaises(errors.BagError) as taken:
                raise getattr(errors, name)("some words")
            self.assertIs(taken.exception.__class__, getattr(errors, name))


if __name__ == "__main__":
    unittest.main()
