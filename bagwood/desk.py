"""The desk: it is told rows of words, keeps a graph with names, weights and costs, and answers by texts."""

from bagwood.asks import Apart, Colours, Watch
from bagwood.bags import fault
from bagwood.errors import NoGraph, NoName, NoRow, NoTie, NoTree
from bagwood.families import family
from bagwood.graphs import MOST_PLACES, tie_of
from bagwood.least import least_tree, least_width
from bagwood.links import Links
from bagwood.low import four, wood
from bagwood.rounds import Rounds
from bagwood.tables import answer
from bagwood.texts import is_name, read_bags, read_number, show_bags

# How many words a row has, by its first word; `keep` and `link` have two or more.
WORDS = {
    "place": 3, "tie": 4, "untie": 3, "drop": 2,
    "width": 1, "bags": 1, "family": 1, "wood": 1, "four": 1,
    "colours": 2, "apart": 1, "watch": 1, "round": 1,
}
CHANGES = ("place", "tie", "untie", "drop")
QUESTIONS = ("colours", "apart", "watch", "link", "round")


def words_of(row):
    if not isinstance(row, str):
        raise NoRow("what is told is no text")
    words = row.split(" ")
    if words[0] in ("keep", "link"):
        is_row = len(words) > 1
    else:
        is_row = WORDS.get(words[0]) == len(words)
    if not is_row:
        raise NoRow("the text is none of the desk's rows")
    return words


def moved_up(place, gone):
    return place - 1 if place > gone else place


class Desk:
    def __init__(self):
        self.names = []
        self.weights = []
        # For each tie its cost.
        self.costs = {}
        self.kept = None

    def say(self, row):
        words = words_of(row)
        if words[0] == "keep":
            self.keep(row[len("keep "):])
            return "ok"
        if words[0] in CHANGES:
            self.change(words)
            return "ok"
        if words[0] in QUESTIONS:
            return self.asked(words)
        return self.looked(words[0])

    def change(self, words):
        if words[0] == "place":
            self.place(words[1], words[2])
        elif words[0] == "tie":
            self.tie(words[1], words[2], words[3])
        elif words[0] == "untie":
            self.untie(words[1], words[2])
        else:
            self.drop(words[1])
        self.kept = None

    def place(self, name, weight):
        if not is_name(name) or name in self.names:
            raise NoName("the name is none, or stands already")
        number = read_number(weight)
        if len(self.names) == MOST_PLACES:
            raise NoGraph("there are ten places already")
        self.names.append(name)
        self.weights.append(number)

    def tie(self, one, other, cost):
        a = self.spot(one)
        b = self.spot(other)
        number = read_number(cost)
        pair = tie_of(len(self.names), a, b)
        if pair in self.costs:
            raise NoTie("the places are tied already")
        self.costs[pair] = number

    def untie(self, one, other):
        pair = tie_of(len(self.names), self.spot(one), self.spot(other))
        if pair not in self.costs:
            raise NoTie("the places are not tied")
        self.costs.pop(pair)

    def drop(self, name):
        v = self.spot(name)
        self.names.pop(v)
        self.weights.pop(v)
        left = [(a, b) for a, b in self.costs if v not in (a, b)]
        self.costs = dict([((moved_up(a, v), moved_up(b, v)), self.costs[(a, b)]) for a, b in left])

    def keep(self, text):
        rows = read_bags(self.names, text)
        if fault(self.whole_graph(), rows) is not None:
            raise NoTree("the rows are no tree of bags of the graph")
        self.kept = rows

    def spot(self, name):
        if name not in self.names:
            raise NoName("no place has the name")
        return self.names.index(name)

    def spots(self, names):
        told = []
        for name in names:
            v = self.spot(name)
            if v in told:
                raise NoName("the name stands a second time")
            told.append(v)
        return told

    def whole_graph(self):
        return (len(self.names), sorted(self.costs))

    def tree(self):
        return least_tree(self.whole_graph()) if self.kept is None else self.kept

    def looked(self, kind):
        if kind == "width":
            return str(least_width(self.whole_graph()))
        if kind == "bags":
            return show_bags(self.names, self.tree())
        if kind == "family":
            return self.show_sets(family(self.whole_graph()))
        if kind == "wood":
            told, places = wood(self.whole_graph())
            return " ".join([told] + self.named(places)) if told == "ring" else told
        sets = four(self.whole_graph())
        return "none" if sets is None else self.show_sets(sets)

    def named(self, places):
        return [self.names[v] for v in places]

    def show_sets(self, sets):
        return "; ".join([" ".join(self.named(places)) for places in sets])

    def asked(self, words):
        many, best, thing = answer(self.tree(), self.question(words))
        if many == 0:
            return "0"
        return " ".join([f"{many} {best}:"] + self.show_thing(words[0], thing))

    def question(self, words):
        whole = self.whole_graph()
        costs = [self.costs[pair] for pair in whole[1]]
        if words[0] == "colours":
            return Colours(whole, read_number(words[1]), self.weights)
        if words[0] == "apart":
            return Apart(whole, self.weights)
        if words[0] == "watch":
            return Watch(whole, self.weights)
        if words[0] == "link":
            return Links(whole, self.spots(words[1:]), costs)
        return Rounds(whole, costs)

    def show_thing(self, kind, thing):
        if kind == "colours":
            return [f"{name}={colour}" for name, colour in zip(self.names, thing)]
        if kind == "link":
            return ["-".join(self.named(pair)) for pair in thing]
        return self.named(thing)
