import itertools
import random
import unittest

from bagwood.asks import Apart, Colours, Watch
from bagwood.bags import fault, width
from bagwood.desk import Desk
from bagwood.errors import NoColours, NoGraph, NoName, NoNumber, NoRow, NoText, NoTie, NoTree, TooWide
from bagwood.families import cover, flaw
from bagwood.graphs import is_joined, touch
from bagwood.least import least_tree, least_width
from bagwood.links import Links
from bagwood.rounds import Rounds
from bagwood.tables import answer
from bagwood.texts import read_bags, show_bags
from tests.helper import (SlowApart, SlowColours, SlowLinks, SlowRounds, SlowWatch, all_pairs, are_tied)
from tests.test_texts import right_bags

LOOKS = ["width", "bags", "family", "wood", "four"]
ASKS = ["apart", "watch", "round", "colours 0", "colours 1", "colours 2", "colours 3", "colours 4"]
MOST = "9" * 30
STRANGE = [None, True, 0, 1.5, b"width", ["width"], ("width",), {"width": 1}, [], object()]
FORMS = {"place": ["new", "number"], "tie": ["old", "old", "number"], "untie": ["old", "old"], "drop": ["old"],
         "colours": ["number"], "apart": [], "watch": [], "round": [], "width": [], "bags": [], "family": [],
         "wood": [], "four": []}


def told(*rows):
    desk = Desk()
    for row in rows:
        assert desk.say(row) == "ok", row
    return desk


def five_tied():
    names = "abcde"
    return told(*[f"place {name} 1" for name in names], *[f"tie {names[a]} {names[b]} 1" for a, b in all_pairs(5)])


def all_said(desk, names):
    """What the desk answers to each row that changes nothing: a text, or the refusal's class."""
    said = []
    for row in LOOKS + ASKS + [f"link {name}" for name in names] + [" ".join(["link"] + names)] * bool(names):
        try:
            said.append((row, desk.say(row)))
        except ValueError as refusal:
            said.append((row, refusal.__class__))
    return said


class Refused(unittest.TestCase):
    def refuse(self, desk, refusal, *rows):
        before = all_said(desk, ["a"])
        for row in rows:
            with self.assertRaises(refusal, msg=row) as taken:
                desk.say(row)
            self.assertIs(taken.exception.__class__, refusal, row)
        self.assertEqual(all_said(desk, ["a"]), before)

    def desk(self):
        return told("place a 3", "place b 4", "place c 5", "tie a b 6", "tie b c 7", "keep -: a b; 0: c b")

    def test_no_row(self):
        words = ["", " ", "  ", "x", "Width", "WIDTH", "width ", " width", "width  ", "width a", "bags 1", "family ",
                 "wood wood", "four a", "apart a", "watch ", "round  ", "round a", "colours", "colours 1 2",
                 "colours 1 ", "colour 1", "link", "links a", "keep", "keeps -:", "kee p", "place", "place a",
                 "place d 1 2", "place d 1 ", "place  d 1", "tie", "tie a", "tie a b", "tie a c 1 2", "tie a  c 1",
                 "untie", "untie a", "untie a b 1", "untie a b ", "drop", "drop a b", "drop a ", "drop  a", "ok",
                 "width\n", "\twidth", "width\tbags", "bags;", "keep\t-:", "place,d,1", "help", "say width", "linka",
                 "place\u00a0d\u00a01", "width\x00"]
        self.refuse(self.desk(), NoRow, *words)
        self.refuse(self.desk(), NoRow, *STRANGE)
        self.refuse(Desk(), NoRow, *words)
        self.refuse(Desk(), NoRow, *STRANGE)

    def test_new_names(self):
        bad = ["", "A", "abcdefg", "a1", "1", "a-b", "\u00e4", "_", "d.", "\u0430", "d\n", "-", "Place"]
        self.refuse(self.desk(), NoName, *[f"place {name} 1" for name in bad + ["a", "b", "c"]])
        # The name comes ahead of the number.
        self.refuse(self.desk(), NoName, *[f"place {name} x" for name in bad + ["a", "b", "c"]])
        self.refuse(self.desk(), NoName, "place  ", "place  1", "place a ")

    def test_old_names(self):
        bad = ["d", "", "A", "abcdefg", "1", "ab", "tie"]
        rows = [f"{row} {name}" for row in ("drop", "link", "link a", "link c b") for name in bad]
        rows += [f"untie a {name}" for name in bad] + [f"untie {name} a" for name in bad]
        rows += [f"tie a {name} 1" for name in bad] + [f"tie {name} a 1" for name in bad]
        self.refuse(self.desk(), NoName, *rows)
        self.refuse(self.desk(), NoName, "tie d a x", "tie a d x", "tie d d x", "tie a d 01", "untie d d", "untie d e",
                    "link d d", "tie  a 1", "link ", "link  a", "link a ", "drop ")
        self.refuse(Desk(), NoName, "drop a", "link a", "tie a b 1", "untie a a", "tie a a 1", "link ", "drop ")

    def test_a_name_twice(self):
        self.refuse(self.desk(), NoName, "link a a", "link a b a", "link b a c c", "link c b a c")

    def test_numbers(self):
        bad = ["", "00", "01", "-1", "+1", "x", "1" * 31, "1.0", "\u0661", "\u00b2", "1\n", "1_0"]
        self.refuse(self.desk(), NoNumber, *[f"place d {number}" for number in bad])
        self.refuse(self.desk(), NoNumber, *[f"tie a c {number}" for number in bad])
        # The number comes ahead of what is tied already, or with itself.
        self.refuse(self.desk(), NoNumber, *[f"tie a b {number}" for number in bad])
        self.refuse(self.desk(), NoNumber, *[f"tie a a {number}" for number in bad])
        self.refuse(self.desk(), NoNumber, *[f"colours {number}" for number in bad])
        full = told(*[f"place {name} 1" for name in "abcdefghij"])
        self.refuse(full, NoNumber, "place k x", "place k 01")

    def test_ten_places_and_the_eleventh(self):
        full = told(*[f"place {name} 1" for name in "abcdefghij"])
        self.refuse(full, NoGraph, "place k 1", "place tie 0", f"place keep {MOST}")
        self.refuse(full, NoName, "place a 1", "place K 1", "place j x")
        self.assertEqual(full.say("drop c"), "ok")
        self.assertEqual(full.say("place k 1"), "ok")
        self.refuse(full, NoGraph, "place c 1")
        self.assertEqual(full.say("watch"), "1 10: a b d e f g h i j k")

    def test_ties(self):
        self.refuse(self.desk(), NoTie, "tie a b 1", "tie b a 1", "tie a a 1", "tie c b 0", "untie a c", "untie c a",
                    "untie a a", "untie b b")

    def test_keep(self):
        self.refuse(self.desk(), NoText, "keep ", "keep  ", "keep -", "keep -: ", "keep  -: a b; 0: b c",
                    "keep -: a b; 0: b c ", "keep -: a b;0: b c", "keep -: a  b; 0: b c", "keep a b c",
                    "keep -: a b; 00: b c", "keep -: A; 0: strange", "keep -: d; 0", "keep -: a a; 0")
        self.refuse(self.desk(), NoName, "keep -: a b; 0: b d", "keep -: a b b; 0: c", "keep -: d", "keep 0: a b d",
                    "keep -: a a", "keep 5: tie")
        self.refuse(self.desk(), NoTree, "keep -:", "keep 0: a b c", "keep -: a b", "keep -: a b; 0: c",
                    "keep -: a b; -: b c", "keep -: a b; 1: b c", "keep -: a b; 0: b c; 0: a; 2: c",
                    "keep -: a b c; 7:", f"keep -: a b c; {MOST}: a")
        self.refuse(Desk(), NoText, "keep ", "keep x")
        self.refuse(Desk(), NoName, "keep -: a")
        self.refuse(Desk(), NoTree, "keep 0:", "keep -:; 1:")

    def test_colours(self):
        self.refuse(self.desk(), NoColours, "colours 5", "colours 6", "colours 10", f"colours {MOST}")
        self.refuse(five_tied(), NoColours, "colours 5", f"colours {MOST}")
        self.refuse(five_tied(), NoNumber, "colours 05", "colours x")
        self.refuse(Desk(), NoColours, "colours 5")

    def test_too_wide(self):
        asks = ASKS + ["link a", "link e a", "link a b c d e"]
        self.refuse(five_tied(), TooWide, *asks)
        self.refuse(five_tied(), NoName, "link f", "link a a", "link a b z")
        kept = told(*[f"place {name} 1" for name in "abcdef"], "keep -: a b c d e; 0: f")
        self.refuse(kept, TooWide, *asks)
        self.assertEqual(kept.say("bags"), "-: a b c d e; 0: f")
        self.assertEqual(kept.say("width"), "0")
        self.assertEqual(kept.say("wood"), "wood")
        self.assertEqual(kept.say("keep -: a b c d; 0: e f"), "ok")
        self.assertEqual(kept.say("apart"), "64 6: a b c d e f")
        # The wide tree goes with the next change, and the least one stands there again.
        self.assertEqual(kept.say("keep -: a b c d e; 0: f"), "ok")
        self.assertEqual(kept.say("drop f"), "ok")
        self.assertEqual(kept.say("apart"), "32 5: a b c d e")


class Told(unittest.TestCase):
    def test_no_places(self):
        desk = Desk()
        self.assertEqual([desk.say(row) for row in LOOKS], ["-1", "-:", "", "wood", "none"])
        self.assertEqual([desk.say(row) for row in ("apart", "watch", "colours 0", "colours 4", "round")],
                         ["1 0:", "1 0:", "1 0:", "1 0:", "0"])
        self.assertEqual(desk.say("keep -:; 0:"), "ok")
        self.assertEqual(desk.say("bags"), "-:; 0:")
        self.assertEqual(desk.say("apart"), "1 0:")

    def test_one_place(self):
        desk = told("place a 7")
        self.assertEqual([desk.say(row) for row in LOOKS], ["0", "-: a", "a", "wood", "none"])
        self.assertEqual([desk.say(row) for row in ASKS],
                         ["2 7: a", "1 7: a", "0", "0", "1 0: a=0", "2 0: a=0", "3 0: a=0", "4 0: a=0"])
        self.assertEqual(desk.say("link a"), "1 0:")

    def test_a_way(self):
        desk = told("place b 2", "place a 3", "place c 2", "tie a b 1", "tie c a 2")
        self.assertEqual(desk.say("width"), "1")
        self.assertEqual(desk.say("apart"), "5 4: b c")
        self.assertEqual(desk.say("watch"), "5 3: a")
        self.assertEqual(desk.say("colours 2"), "2 3: b=0 a=1 c=0")
        self.assertEqual(desk.say("link c b"), "1 3: b-a a-c")
        self.assertEqual(desk.say("link b c"), "1 3: b-a a-c")
        self.assertEqual(desk.say("link a"), "4 0:")
        self.assertEqual(desk.say("round"), "0")
        self.assertEqual(desk.say("wood"), "wood")

    def test_a_round(self):
        desk = told("place d 1", "place c 1", "place b 1", "place a 1", "tie d c 1", "tie c b 2", "tie b a 3",
                    "tie a d 4")
        self.assertEqual(desk.say("round"), "1 10: d c b a")
        self.assertEqual(desk.say("four"), "none")
        self.assertEqual(desk.say("tie d b 1"), "ok")
        self.assertEqual(desk.say("tie c a 1"), "ok")
        self.assertEqual(desk.say("round"), "3 6: d c a b")
        self.assertEqual(sorted(desk.say("four").split("; ")), ["a", "b", "c", "d"])
        self.assertEqual(desk.say("width"), "3")
        self.assertEqual(desk.say("bags"), "-: d c b a")
        self.assertEqual(desk.say("link d a"), "23 2: d-c c-a")

    def test_dropped_places_and_the_numbers_of_the_others(self):
        desk = told("place a 1", "place b 2", "place c 4", "place d 8", "tie a b 1", "tie b c 2", "tie c d 4",
                    "tie a d 8", "tie a c 16")
        self.assertEqual(desk.say("round"), "1 15: a b c d")
        self.assertEqual(desk.say("drop b"), "ok")
        self.assertEqual(desk.say("round"), "1 28: a c d")
        self.assertEqual(desk.say("link a d"), "4 8: a-d")
        self.assertEqual(desk.say("colours 3"), "6 6: a=2 c=1 d=0")
        self.assertEqual(desk.say("place b 32"), "ok")
        self.assertEqual(desk.say("apart"), "8 40: d b")
        self.assertEqual(desk.say("drop a"), "ok")
        self.assertEqual(desk.say("apart"), "6 40: d b")
        self.assertEqual(desk.say("link c d"), "1 4: c-d")
        self.assertEqual(desk.say("tie b c 1"), "ok")
        self.assertEqual(desk.say("link d b"), "1 5: c-d c-b")
        self.assertEqual(desk.say("drop b"), "ok")
        self.assertEqual(desk.say("drop c"), "ok")
        self.assertEqual(desk.say("drop d"), "ok")
        self.assertEqual(all_said(desk, []), all_said(Desk(), []))

    def test_names_that_are_words_of_the_rows(self):
        names = ["place", "tie", "untie", "drop", "keep", "width", "link", "round", "four", "ok"]
        desk = told(*[f"place {name} 1" for name in names], "tie place tie 5", "tie keep link 3", "tie link width 4")
        self.assertEqual(desk.say("link keep width"), "1 7: keep-link width-link")
        self.assertEqual(desk.say("link link"), "4 0:")
        self.assertEqual(desk.say("link place tie"), "1 5: place-tie")
        self.assertEqual(desk.say("untie place tie"), "ok")
        self.assertEqual(desk.say("drop drop"), "ok")
        self.assertEqual(desk.say("drop place"), "ok")
        self.assertEqual(desk.say("place place 3"), "ok")
        self.assertEqual(desk.say("apart").split(" ")[1], "10:")
        self.assertTrue(desk.say("apart").endswith(" place"))
        asks = ["apart", "watch", "round", "colour", "bags", "family", "wood", "four", "link", "keep"]
        desk = told(*[f"place {name} 1" for name in asks], "tie apart watch 2", "tie watch round 3")
        self.assertEqual(desk.say("link round apart"), "1 5: apart-watch watch-round")
        self.assertEqual(desk.say("link apart watch"), "2 2: apart-watch")
        self.assertEqual(desk.say("link link"), "1 0:")
        for name in asks[:3]:
            self.assertEqual(desk.say(f"link {name}").split(" ")[1], "0:")
            self.assertEqual(desk.say(f"drop {name}"), "ok")

    def test_numbers_of_thirty_figures_and_nought(self):
        desk = told(f"place a {MOST}", "place b 0", f"place c {MOST}", f"tie a b {MOST}", f"tie b c {MOST}")
        self.assertEqual(desk.say("apart"), f"5 {2 * int(MOST)}: a c")
        self.assertEqual(desk.say("watch"), "5 0: b")
        self.assertEqual(desk.say("link a c"), f"1 {2 * int(MOST)}: a-b b-c")
        self.assertEqual(desk.say("colours 2"), "2 0: a=0 b=1 c=0")

    def test_a_kept_tree(self):
        desk = told("place a 1", "place b 1", "place c 1", "tie a b 1")
        least = desk.say("bags")
        for change in ("place d 1", "tie b c 1", "untie a b", "drop c", "drop a"):
            desk = told("place a 1", "place b 1", "place c 1", "tie a b 1", "keep -: c b; 0: a b c; 1:; 0: b")
            self.assertEqual(desk.say("bags"), "-: b c; 0: a b c; 1:; 0: b")
            self.assertEqual(desk.say("width"), "1")
            for row in ("place a 1", "tie a b 1", "untie a c", "drop d", "keep -: a", "place e x", "colours 9"):
                self.assertRaises(ValueError, desk.say, row)
            self.assertEqual([desk.say(row) for row in LOOKS + ["apart"]][1], "-: b c; 0: a b c; 1:; 0: b")
            self.assertEqual(desk.say(change), "ok")
            self.assertNotIn("0: a b c", desk.say("bags"))
        desk = told("place a 1", "place b 1", "place c 1", "tie a b 1", "keep -: a b c", "keep -: c; 0: a b")
        self.assertEqual(desk.say("bags"), "-: c; 0: a b")
        self.assertEqual(desk.say("tie a c 1"), "ok")
        self.assertEqual(desk.say("untie a c"), "ok")
        self.assertEqual(desk.say("bags"), least)

    def test_two_desks(self):
        one, other = Desk(), Desk()
        one.say("place a 1")
        self.assertRaises(NoName, other.say, "drop a")
        other.say("place a 5")
        one.say("keep -: a; 0:")
        self.assertEqual((one.say("apart"), other.say("apart")), ("2 1: a", "2 5: a"))
        self.assertEqual((one.say("bags"), other.say("bags")), ("-: a; 0:", "-: a"))
        one.say("place b 1")
        one.say("tie a b 3")
        self.assertEqual((one.say("width"), other.say("width")), ("1", "0"))
        self.assertEqual(all_said(Desk(), []), all_said(Desk(), []))
        self.assertEqual(Desk().say("width"), "-1")

    def test_arguments(self):
        self.assertEqual(Desk().say(row="width"), "-1")


class Model:
    """What a desk must know, kept by names alone, and what it must answer."""

    def __init__(self):
        self.names = []
        self.weights = {}
        self.costs = {}
        self.kept = None

    def graph(self):
        ties = [(a, b) for a, b in all_pairs(len(self.names)) if frozenset([self.names[a], self.names[b]]) in self.costs]
        return len(self.names), ties

    def tree(self):
        return self.kept or least_tree(self.graph())

    def refusal(self, row):
        if not isinstance(row, str):
            return NoRow
        words = row.split(" ")
        if words[0] == "keep":
            return NoRow if len(words) == 1 else self.keep_refusal(row[5:])
        if words[0] not in FORMS and words[0] != "link":
            return NoRow
        form = FORMS.get(words[0], ["told"] * max(1, len(words) - 1))
        if len(words) != len(form) + 1:
            return NoRow
        for k, kind in enumerate(form, 1):
            word = words[k]
            if kind == "number":
                if not word or not set(word) <= set("0123456789") or len(word) > 30 or (word[0] == "0" and word != "0"):
                    return NoNumber
            elif kind == "new":
                good = 1 <= len(word) <= 6 and set(word) <= set("abcdefghijklmnopqrstuvwxyz")
                if not good or word in self.names:
                    return NoName
            elif word not in self.names or (kind == "told" and word in words[1:k]):
                return NoName
        return self.last_refusal(words)

    def keep_refusal(self, text):
        rows = right_bags(self.names, text)
        if not isinstance(rows, list):
            return rows
        return None if fault(self.graph(), rows) is None else NoTree

    def last_refusal(self, words):
        if words[0] == "place":
            return NoGraph if len(self.names) == 10 else None
        if words[0] in ("tie", "untie"):
            tied = frozenset(words[1:3]) in self.costs
            return NoTie if words[1] == words[2] or tied == (words[0] == "tie") else None
        if words[0] == "colours" and int(words[1]) > 4:
            return NoColours
        if words[0] in ("colours", "apart", "watch", "link", "round") and width(self.tree()) > 3:
            return TooWide
        return None

    def do(self, row):
        words = row.split(" ")
        if words[0] == "place":
            self.names.append(words[1])
            self.weights[words[1]] = int(words[2])
        if words[0] == "tie":
            self.costs[frozenset(words[1:3])] = int(words[3])
        if words[0] == "untie":
            del self.costs[frozenset(words[1:3])]
        if words[0] == "drop":
            self.names.remove(words[1])
            self.costs = {pair: cost for pair, cost in self.costs.items() if words[1] not in pair}
        if words[0] in ("place", "tie", "untie", "drop"):
            self.kept = None
        if words[0] == "keep":
            self.kept = right_bags(self.names, row[5:])

    def questions(self, words):
        """The count of the test's own, and the program's question."""
        g = self.graph()
        weights = [self.weights[name] for name in self.names]
        costs = [self.costs[frozenset([self.names[a], self.names[b]])] for a, b in g[1]]
        if words[0] == "colours":
            return SlowColours(g, int(words[1]), weights), Colours(g, int(words[1]), weights)
        if words[0] == "link":
            spots = [self.names.index(name) for name in words[1:]]
            return SlowLinks(g, spots, costs), Links(g, spots, costs)
        if words[0] == "round":
            return SlowRounds(g, costs), Rounds(g, costs)
        return (SlowApart(g, weights), Apart(g, weights)) if words[0] == "apart" else \
            (SlowWatch(g, weights), Watch(g, weights))

    def shown(self, kind, thing):
        if kind == "colours":
            return [f"{name}={colour}" for name, colour in zip(self.names, thing)]
        if kind == "link":
            return [f"{self.names[a]}-{self.names[b]}" for a, b in thing]
        return [self.names[v] for v in thing]


class Drawn(unittest.TestCase):
    def check_look(self, model, row, said):
        g = model.graph()
        sets = [[model.names.index(name) for name in part.split(" ")] for part in said.split("; ")] \
            if row in ("family", "four") and said not in ("", "none") else []
        if row == "width":
            self.assertEqual(said, str(least_width(g)))
        elif row == "bags" and model.kept:
            self.assertEqual(said, show_bags(model.names, model.kept))
        elif row == "bags":
            rows = read_bags(model.names, said)
            self.assertIsNone(fault(g, rows))
            self.assertEqual(width(rows), least_width(g))
            self.assertLessEqual(len(rows), max(1, g[0]))
        elif row == "family":
            self.assertIsNone(flaw(g, sets))
            self.assertEqual(len(cover(sets)), least_width(g) + 1)
            self.assertEqual(len(set(map(tuple, sets))), len(sets))
        elif row == "wood":
            words = said.split(" ")
            self.assertEqual(words[0], "wood" if least_width(g) <= 1 else "ring")
            ring = [model.names.index(name) for name in words[1:]]
            self.assertEqual(len(ring) >= 3, words[0] == "ring")
            self.assertTrue(all(are_tied(g, a, b) for a, b in zip(ring, ring[1:] + ring[:1])))
            self.assertEqual(len(set(ring)), len(ring))
        else:
            self.assertEqual(said == "none", least_width(g) <= 2)
            self.assertEqual(len(sets), 0 if said == "none" else 4)
            self.assertTrue(all(is_joined(g, part) for part in sets))
            for one, other in itertools.combinations(sets, 2):
                self.assertTrue(touch(g, one, other) and not set(one) & set(other))

    def check_answer(self, model, words, said):
        g = model.graph()
        slow, question = model.questions(words)
        many, best, thing = answer(model.tree(), question)
        right = "0" if many == 0 else " ".join([f"{many} {best}:"] + model.shown(words[0], thing))
        self.assertEqual(said, right)
        if g[0] <= 5 and len(g[1]) <= 8:
            wholes = slow.wholes(list(range(g[0])), g[1])
            self.assertEqual(many, len(wholes))
            if wholes:
                least = slow.best(slow.amount(part, []) for part in wholes)
                self.assertEqual(best, least)
                texts = [" ".join([f"{many} {best}:"] + model.shown(words[0], slow.told(part))) for part in wholes
                         if slow.amount(part, []) == least]
                self.assertIn(said, texts)

    def run_rows(self, seed, many, most, draw):
        chance = random.Random(seed)
        desk, model, seen = Desk(), Model(), []
        for one in range(many):
            row = draw(chance, model, most)
            refusal = model.refusal(row)
            if refusal is None:
                said = desk.say(row)
                words = row.split(" ")
                if words[0] in LOOKS:
                    self.check_look(model, row, said)
                elif words[0] in ("colours", "apart", "watch", "link", "round"):
                    self.check_answer(model, words, said)
                else:
                    self.assertEqual(said, "ok", row)
                    model.do(row)
                self.assertIs(said.__class__, str)
                seen.append(words[0])
            else:
                before = all_said(desk, model.names) if one % 8 == 0 else None
                with self.assertRaises(refusal, msg=row) as taken:
                    desk.say(row)
                self.assertIs(taken.exception.__class__, refusal, row)
                if before:
                    self.assertEqual(all_said(desk, model.names), before)
                seen.append(refusal)
        return seen

    def test_rows_as_they_come(self):
        seen = []
        for seed in range(12):
            seen += self.run_rows(seed, 250, 5, drawn_row)
        for kind in list(FORMS) + ["link", "keep", NoRow, NoName, NoNumber, NoText, NoTie, NoTree, NoColours, TooWide]:
            self.assertTrue(kind in seen, kind)

    def test_many_places(self):
        seen = self.run_rows(99, 300, 11, drawn_row) + self.run_rows(98, 300, 11, drawn_row)
        self.assertTrue(NoGraph in seen)

    def test_what_bags_tells_keep_takes(self):
        chance = random.Random(43)
        for seed in range(30):
            desk, model = Desk(), Model()
            for one in range(40):
                row = drawn_row(chance, model, 8)
                if model.refusal(row) is None:
                    desk.say(row)
                    model.do(row)
            text = desk.say("bags")
            before = all_said(desk, model.names)
            self.assertEqual(desk.say(f"keep {text}"), "ok")
            self.assertEqual(desk.say("bags"), text)
            self.assertEqual([said for row, said in all_said(desk, model.names)], [said for row, said in before])


def drawn_row(chance, model, most):
    """A row that mostly fits, for a graph of about so many places."""
    words = ["a", "b", "c", "d", "e", "f", "g", "h", "tie", "keep", "link", "abcdef", "x", "y", "z"]
    if chance.random() < 0.08:
        return chance.choice(STRANGE + ["", " ", "width ", "link", "keep", "keep ", "place  1", "tie a", "drop a b"])
    names = [chance.choice(model.names) if model.names and chance.random() < 0.93 else chance.choice(words + ["", "A"])
             for k in range(3)]
    number = chance.choice(["0", "1", "2", "3", "4", "7", MOST, "5"] + ["01", "", "x"] * (chance.random() < 0.2))
    if len(model.names) < most and chance.random() < 0.25:
        return f"place {chance.choice(words)} {number}"
    kind = chance.choice(["tie"] * 6 + ["untie", "drop", "keep", "keep"] + list(FORMS) + ["link"])
    if kind == "keep":
        return "keep " + drawn_text(chance, model)
    if kind == "link":
        return " ".join(["link"] + names[:chance.randint(1, 3)])
    if kind == "colours":
        number = chance.choice(["0", "1", "2", "3", "4", number])
    form = FORMS[kind]
    return " ".join([kind] + [number if one == "number" else names[k] for k, one in enumerate(form)])


def drawn_text(chance, model):
    """The text of a tree, mostly one of the graph, its names in any order."""
    rows = least_tree(model.graph())
    if chance.random() < 0.15:
        rows = [(None, list(range(len(model.names))))]
    if chance.random() < 0.6:
        up = chance.randrange(len(rows))
        more = [v for v in range(len(model.names)) if v in rows[up][1] or chance.random() < 0.2]
        rows[up] = (rows[up][0], more)
        rows.append((up, [v for v in more if chance.random() < 0.5]))
    if chance.random() < 0.1:
        rows.append((chance.choice([0, len(rows), 77]), [v for v in range(len(model.names)) if chance.random() < 0.2]))
    text = show_bags(model.names, [(up, chance.sample(bag, len(bag))) for up, bag in rows])
    if chance.random() < 0.1:
        k = chance.randrange(len(text) + 1)
        text = text[:k] + chance.choice([" ", ";", "a", "q", ":", "0"]) + text[k:]
    return text


if __name__ == "__main__":
    unittest.main()
