import itertools
import random
import re
import unittest

from bagwood.errors import NoName, NoNumber, NoText
from bagwood.texts import read_bags, read_number, show_bags
from tests.helper import check_refused, drawn_worlds, small_trees

NAMES = ["a", "b", "abcdef", "zz", "tie", "keep", "c", "d", "e", "f"]
NUMBER = r"(0|[1-9][0-9]{0,29})"
ROW = rf"(-|{NUMBER}):( [a-z]{{1,6}})*"
TREE = re.compile(rf"{ROW}(; {ROW})*")


def right_bags(names, text):
    """What point 41 asks for, read by a pattern: rows or the refusal."""
    if not TREE.fullmatch(text):
        return NoText
    rows = []
    for row in text.split("; "):
        up, words = row.split(":")
        words = words.split()
        if [word for word in words if word not in names] or len(set(words)) < len(words):
            return NoName
        rows.append((None if up == "-" else int(up), sorted(names.index(word) for word in words)))
    return rows


class Numbers(unittest.TestCase):
    def test_numbers(self):
        for number in list(range(120)) + [10 ** k for k in range(30)] + [10 ** 30 - 1, 123456789012345678901234567890]:
            self.assertEqual(read_number(str(number)), number)
            self.assertIs(read_number(str(number)).__class__, int)

    def test_other_texts(self):
        wrong = ["", "00", "01", "007", "0" * 30, "+1", "-1", "-0", "+0", " 1", "1 ", "1 2", " ", "1\n", "\n1", "\t1",
                 "1" * 31, "1" + "0" * 30, "0" * 31, "9" * 4000, "1_0", "1,0", "1.0", "1.", "1e3", "0x1", "0b1", "a",
                 "one", "1a", "a1", "-", "True", "None", "\u0661", "\u0967\u0968", "1\u0662", "\u00b2", "2\u00b3",
                 "\uff11", "\u2460", "\u216b", "\u00bd", "1\u00a0", "\u30001", "1\x00", "\u4e00"]
        for text in wrong:
            check_refused(self, NoNumber, read_number, text)

    def test_every_short_text(self):
        for many in range(4):
            for signs in itertools.product("012 -+a", repeat=many):
                text = "".join(signs)
                if re.fullmatch(NUMBER, text):
                    self.assertEqual(read_number(text), int(text))
                else:
                    check_refused(self, NoNumber, read_number, text)


class ReadBags(unittest.TestCase):
    def check(self, names, text):
        right = right_bags(names, text)
        if isinstance(right, list):
            self.assertEqual(read_bags(names, text), right, text)
        else:
            check_refused(self, right, read_bags, names, text)

    def test_told_cases(self):
        names = ["a", "b", "c"]
        self.assertEqual(read_bags(names, "-: a b; 0: b c"), [(None, [0, 1]), (0, [1, 2])])
        self.assertEqual(read_bags(names, "-:"), [(None, [])])
        self.assertEqual(read_bags([], "-:"), [(None, [])])
        self.assertEqual(read_bags(names, "-: c a b"), [(None, [0, 1, 2])])
        self.assertEqual(read_bags(names, "-:; 0:; 1: c b"), [(None, []), (0, []), (1, [1, 2])])
        self.assertEqual(read_bags(NAMES, "-: keep tie; 0: zz abcdef"), [(None, [4, 5]), (0, [2, 3])])

    def test_the_up_is_not_looked_at_farther(self):
        names = ["a"]
        self.assertEqual(read_bags(names, "7: a"), [(7, [0])])
        self.assertEqual(read_bags(names, "0:"), [(0, [])])
        self.assertEqual(read_bags(names, "-: a; -: a; 5:"), [(None, [0]), (None, [0]), (5, [])])
        self.assertEqual(read_bags(names, "9" * 30 + ": a"), [(10 ** 30 - 1, [0])])

    def test_other_forms(self):
        wrong = ["", " ", "-", ":", "a", "- :", "-:a", "-: a;", "-: a; ", "-: a;0: a", "-: a ; 0: a", "-: a;  0: a",
                 ";", "; ", "-:;", "-:; ", "; -:", " -:", "-: ", "-:  a", "-: a  b", "-: a ", "--:", "-1:", "+1:",
                 "00:", "01:", "0" * 30 + ":", "1" * 31 + ":", "-: A", "-: a1", "-: abcdefg", "-: a-b", "-: a,b",
                 "-: a: b", "-:: a", "-: a;; 0: a", "-: a; 0", "-: a\n", "-:\ta", "-: a; 0 : a", "None: a", "None:",
                 "\u0661:", "-: \u00e4", "-: \u03b1", "-: a\u00a0b", "-: \u0430", "\u2013: a", "-: _", "-: .",
                 "-: a; 0: a; x", "-: a; x: a", "-: a; : a", "- a", "-: a/ 0: b", "-: a, b", "-: A; 0: zzz"]
        for text in wrong:
            self.assertEqual(right_bags(["a", "b"], text), NoText, text)
            check_refused(self, NoText, read_bags, ["a", "b"], text)

    def test_names(self):
        for text in ("-: c", "-: a c", "-: a; 0: c", "-: a a", "-: a b a", "-: a; 0: b b", "-: aa", "-: ab",
                     "-: a; 7: b c a", "-: abcdef"):
            check_refused(self, NoName, read_bags, ["a", "b"], text)
        check_refused(self, NoName, read_bags, [], "-: a")
        # In another bag a name may stand again.
        self.assertEqual(read_bags(["a", "b"], "-: a; 0: a b; 1: b a"), [(None, [0]), (0, [0, 1]), (1, [0, 1])])

    def test_the_form_comes_ahead_of_the_names(self):
        for text in ("-: x; 0: A", "-: a a; 0:  a", "-: x; y", "-: x x;", "-: strange; 00:"):
            check_refused(self, NoText, read_bags, ["a", "b"], text)

    def test_every_short_text(self):
        for many in range(7):
            for signs in itertools.product("-: a;", repeat=many):
                text = "".join(signs)
                if many < 6 or text.startswith("-:"):
                    self.check(["a", "b"], text)

    def test_drawn_texts(self):
        chance = random.Random(41)
        for one in range(3000):
            parts = ["-", "0", "1", "12", "01", ":", ": ", "; ", ";", " ", " a", " b", " c", " tie", " abcdefg", "a"]
            text = "-:" + "".join(chance.choice(parts) for k in range(chance.randint(0, 8)))
            self.check(["a", "b", "tie"], text)


class ShowBags(unittest.TestCase):
    def test_told_cases(self):
        names = ["x", "b", "abcdef"]
        self.assertEqual(show_bags(names, [(None, [0, 1]), (0, [1, 2])]), "-: x b; 0: b abcdef")
        self.assertEqual(show_bags([], [(None, [])]), "-:")
        self.assertEqual(show_bags(names, [(None, []), (0, []), (0, [0, 1, 2])]), "-:; 0:; 0: x b abcdef")
        long = [(None, [0])] + [(k, [0]) for k in range(399)]
        self.assertEqual(show_bags(["a"], long), "; ".join(["-: a"] + [f"{k}: a" for k in range(399)]))

    def test_what_is_written_is_read_again(self):
        trees = small_trees(2, 3) + [rows for g, rows in drawn_worlds(41, 200, 10, 30, 5)]
        for rows in trees:
            text = show_bags(NAMES, rows)
            self.assertRegex(text, TREE)
            self.assertEqual(read_bags(NAMES, text), rows)
            self.assertEqual(show_bags(NAMES, read_bags(NAMES, text)), text)

    def test_names_in_any_order(self):
        chance = random.Random(42)
        for g, rows in drawn_worlds(42, 100, 10, 10, 5):
            text = show_bags(NAMES, [(up, chance.sample(places, len(places))) for up, places in rows])
            self.assertEqual(read_bags(NAMES, text), rows)


if __name__ == "__main__":
    unittest.main()
