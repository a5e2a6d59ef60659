"""Items: leaves, gatherers, and closed ones."""

import random
from itertools import product

from coverways.errors import InvalidHop, InvalidMembers, InvalidName, InvalidStretch, InvalidWay
from coverways.items import Closed, Gatherer, Holed, Item, Leaf
from coverways.tables import Table
from tests.support import WRONG_ELEMENTS, WRONG_LISTS, Case

NO_NAMES = WRONG_ELEMENTS + ["", "abcdefg", "home", "hole", "ring", "all", "none", "A", "x1", "x ", b"x", ("x",)]
NO_STRETCHES = WRONG_ELEMENTS + ["0" * 101, "01a", 10 ** 30]
WAY = {"x": "k", "y": "x", "b": "y"}


def item(kind, name="g", stretch="01", keeper="k", way=None):
    """An item of the kind, with one member if it has some."""
    if kind in (Item, Leaf):
        return kind(name, stretch, keeper, way)
    return kind(name, stretch, keeper, ["p"], way)


class AllKinds(Case):
    KINDS = (Item, Leaf, Gatherer, Closed)

    def test_what_they_are_made_of(self):
        for kind in self.KINDS:
            told = item(kind, way=WAY)
            self.assertEqual([told.name, told.stretch, told.keeper, told.way()], ["g", "01", "k", WAY])
            self.assertEqual(list(told.way()), ["b", "x", "y"])
            self.assertEqual([told.sees(), item(kind).sees(), item(kind).way()], [["b", "k", "x", "y"], ["k"], {}])
            self.assertEqual([item(kind, way={}).way(), item(kind, name="k").name], [{}, "k"])
            for stretch in ("", "0", "1" * 99, "01" * 50):
                self.assertEqual(item(kind, stretch=stretch).stretch, stretch)

    def test_wrong_names(self):
        for kind, wrong in product(self.KINDS, NO_NAMES):
            self.check(InvalidName, {"value": wrong}, item, kind, name=wrong)
            self.check(InvalidName, {"value": wrong}, item, kind, wrong, None, None, None)

    def test_wrong_stretches(self):
        for kind, wrong in product(self.KINDS, NO_STRETCHES):
            self.check(InvalidStretch, {"value": wrong}, item, kind, stretch=wrong)
            self.check(InvalidStretch, {"value": wrong}, item, kind, "g", wrong, "home", {"k": "k"})

    def test_wrong_keepers(self):
        for kind, wrong in product(self.KINDS, NO_NAMES):
            self.check(InvalidHop, {"value": wrong}, item, kind, keeper=wrong)
            self.check(InvalidHop, {"value": wrong}, item, kind, keeper=wrong, way=7)

    def test_ways_that_are_right(self):
        for way in ({}, {"x": "k"}, WAY, {"x": "k", "y": "k", "z": "y"}, {"a": "b", "b": "c", "c": "d", "d": "k"},
                    {"d": "k", "c": "d", "b": "c", "a": "b"}):
            for kind in self.KINDS:
                self.assertEqual(item(kind, way=way).way(), way)

    def test_ways_that_are_wrong(self):
        round_ones = [{"x": "x"}, {"x": "y", "y": "x"}, {"x": "k", "y": "z", "z": "y"}, {"a": "b", "b": "c", "c": "b"}]
        elsewhere = [{"x": "y"}, {"x": "k", "y": "q"}, {"a": "b", "b": "c"}, {"x": "home"}, {"x": "hole"}]
        from_keeper = [{"k": "k"}, {"k": "x"}, {"k": "x", "x": "k"}, {"x": "k", "k": "y", "y": "k"}]
        kinds = [True, False, 0, 1, "", "x", [], ["x"], (), (("x", "k"),), {"x"}, object(), Table(1)]
        names = [{wrong: "k"} for wrong in (None, True, 0, "", "home", "X", "abcdefg", ("x",), b"x")]
        goals = [{"x": "k", "y": wrong} for wrong in NO_NAMES]
        for kind, wrong in product(self.KINDS, round_ones + elsewhere + from_keeper + kinds + names + goals):
            self.check(InvalidWay, {"value": wrong}, item, kind, way=wrong)

    def test_ways_by_chance(self):
        chance = random.Random(71)
        right = 0
        for _ in range(2000):
            way = {hop: chance.choice("abcdk") for hop in chance.sample("abcdk", chance.randrange(5))}
            arrives = "k" not in way
            for hop in way:
                for _ in range(6):
                    hop = way.get(hop, hop)
                arrives = arrives and hop == "k"
            right = right + arrives
            if arrives:
                self.assertEqual(Leaf("p", "", "k", way).way(), way)
            else:
                self.check(InvalidWay, {"value": way}, Leaf, "p", "", "k", way)
        self.assertGreater(right, 300)

    def test_what_was_passed_stays(self):
        for kind in self.KINDS:
            way = dict(WAY)
            told = item(kind, way=way)
            self.assertEqual([way, list(way)], [WAY, list(WAY)])
            del way["x"]
            self.assertEqual(told.way(), WAY)
            self.check_new(told.way)
            self.check_new(told.sees)

    def test_equal_ones(self):
        for kind in self.KINDS:
            told = item(kind, way=WAY)
            self.assertTrue(told == item(kind, way={"b": "y", "y": "x", "x": "k"}))
            self.assertFalse(told != item(kind, way=WAY))
            for other in (item(kind), item(kind, name="p" * 6, way=WAY), item(kind, stretch="1", way=WAY),
                          item(kind, way={**WAY, "b": "k"}), item(kind, keeper="h"), None, "g", told.told(), repr(told),
                          WAY, [told], object()):
                self.assertFalse(told == other)
                self.assertTrue(told != other)
            for other in self.KINDS:
                self.assertIs(item(kind) == item(other), kind is other)
                self.assertIs(item(kind) != item(other), kind is not other)

    def test_what_is_shown_alike_is_not_equal(self):
        class Other:
            def __repr__(self):
                return repr(Leaf("p", "", "k"))

        self.assertEqual(repr(Leaf("p", "", "k")), repr(Other()))
        self.assertFalse(Leaf("p", "", "k") == Other())

    def test_arguments_by_name(self):
        self.assertEqual(Item(way=WAY, keeper="k", stretch="", name="p"), Item("p", "", "k", WAY))
        self.assertEqual(Leaf(way=WAY, keeper="k", stretch="", name="p"), Leaf("p", "", "k", WAY))
        for kind in (Gatherer, Closed):
            self.assertEqual(kind(way=WAY, members=["p"], keeper="k", stretch="", name="g"),
                             kind("g", "", "k", ["p"], WAY))


class Told(Case):
    def test_in_words(self):
        self.assertEqual(Item("p", "00", "k").told(), "p 00 at k")
        self.assertEqual(Item("p", "", "k", {"x": "k"}).told(), "p - at k")
        self.assertEqual(Leaf("p", "00", "k").told(), "leaf p 00 at k")
        self.assertEqual(Leaf("leaf", "", "k").told(), "leaf leaf - at k")
        self.assertEqual(Gatherer("g", "0", "h", ["p"]).told(), "gatherer of 1 g 0 at h")
        self.assertEqual(Gatherer("g", "", "h", ["p", "q", "r"]).told(), "gatherer of 3 g - at h")
        self.assertEqual(Closed("g", "0", "h", ("p", "q")).told(), "holed gatherer of 2 g 0 at h")

    def test_shown(self):
        self.assertEqual(repr(Item("p", "00", "k", {"x": "k"})), "Item('p', '00', 'k', {'x': 'k'})")
        self.assertEqual(repr(Leaf("p", "00", "k", {"x": "k"})), "Leaf('p', '00', 'k', {'x': 'k'})")
        self.assertEqual(repr(Leaf("p", "", "k", {"y": "x", "x": "k"})), "Leaf('p', '', 'k', {'x': 'k', 'y': 'x'})")
        self.assertEqual(repr(Gatherer("g", "0", "k", ["q", "p"], {"y": "k", "x": "y"})),
                         "Gatherer('g', '0', 'k', ['p', 'q'], {'x': 'y', 'y': 'k'})")
        self.assertEqual(repr(Closed("g", "0", "k", ("p",))), "Closed('g', '0', 'k', ['p'], {})")

    def test_classes(self):
        self.assertEqual([Leaf.__bases__, Gatherer.__bases__, Closed.__bases__, Holed.__bases__],
                         [(Item,), (Item,), (Holed, Gatherer), (object,)])


class Members(Case):
    def test_sorted_ones(self):
        for kind in (Gatherer, Closed):
            told = ["q", "home"[:2], "abcdef", "p"]
            made = kind("g", "0", "k", told)
            self.assertEqual([made.members(), told], [["abcdef", "ho", "p", "q"], ["q", "ho", "abcdef", "p"]])
            self.assertEqual(made, kind("g", "0", "k", tuple(told[::-1])))
            told.append("r")
            self.assertEqual(made.members(), ["abcdef", "ho", "p", "q"])
            self.check_new(made.members)
            for other in (["p"], ["abcdef", "ho", "p", "q", "r"]):
                self.assertFalse(made == kind("g", "0", "k", other))

    def test_wrong_ones(self):
        for kind in (Gatherer, Closed):
            for value in WRONG_LISTS + [[], (), "p", "pq", {"p": 1}, {"p"}]:
                self.check(InvalidMembers, {"position": None}, kind, "g", "0", "k", value)
            for wrong in NO_NAMES + ["g", ["p"], "p"]:
                self.check(InvalidMembers, {"position": 1}, kind, "g", "0", "k", ["p", wrong])
                self.check(InvalidMembers, {"position": 2}, kind, "g", "0", "k", ("q", "p", wrong, "q"))
                if wrong != "p":
                    self.check(InvalidMembers, {"position": 0}, kind, "g", "0", "k", [wrong])
            self.assertEqual(kind("g", "0", "k", ["k"]).members(), ["k"])

    def test_sequence_of_errors(self):
        for kind in (Gatherer, Closed):
            self.check(InvalidName, {"value": ""}, kind, "", None, None, None, 7)
            self.check(InvalidStretch, {"value": None}, kind, "g", None, None, None, 7)
            self.check(InvalidHop, {"value": None}, kind, "g", "", None, None, 7)
            self.check(InvalidMembers, {"position": None}, kind, "g", "", "k", None, 7)
            self.check(InvalidMembers, {"position": 0}, kind, "g", "", "k", ["g"], {"k": "k"})
            self.check(InvalidWay, {"value": 7}, kind, "g", "", "k", ["p"], 7)
        self.check(InvalidName, {"value": ""}, Leaf, "", None, None, 7)
