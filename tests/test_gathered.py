"""Gathered nets: their items, what stands, what sends, ways and ends."""

import random
from itertools import product

from coverways.errors import (InvalidAddress, InvalidItems, InvalidWidth, InvalidWithdrawn, TooMany, UnknownHop,
                              UnknownItem, WrongMember)
from coverways.gathered import Gathered
from coverways.items import Closed, Gatherer, Item, Leaf
from coverways.stretches import cells
from coverways.tables import Table
from tests.support import (GATHERED_FIVE, HOPS, WRONG_LISTS, WRONG_WIDTHS, Case, all_withdrawn, random_gathered,
                           sent_by_words, stands_by_words, strings, way_of_gathered_by_words)

P, R = Leaf("p", "000", "k"), Leaf("r", "001", "k")
Q = Leaf("q", "0", "m", {"k": "h", "h": "m"})
G = Gatherer("g", "00", "k", ["r", "p"], {"h": "k"})
LOOSE = Gathered(3, [P, R, Q, G])

NO_ITEMS = [None, True, False, 0, 1, "", "p", b"p", [], (), {}, [P], (P,), object(), Item("p", "000", "k"), LOOSE,
            Table(3), Leaf, ("p", "000", "k")]


def leaves(many, length=3):
    """Leaves of all one length, kept at x."""
    return [Leaf("l" + "abcdefghi"[at], bits, "x") for at, bits in enumerate(strings(length)[:many])]


class Making(Case):
    def test_what_it_is_made_of(self):
        for gathered in (LOOSE, Gathered(3, (G, Q, R, P)), Gathered(items=[Q, P, G, R], width=3)):
            self.assertEqual([gathered.width, len(gathered)], [3, 4])
            self.assertEqual([gathered.names(), gathered.hops()], [["g", "p", "q", "r"], ["h", "k", "m"]])
            self.assertEqual([gathered.leaves(), gathered.gatherers()], [["p", "q", "r"], ["g"]])
            for item in (P, Q, R, G):
                self.assertEqual(gathered[item.name], item)
                self.assertIs(item.name in gathered, True)
            self.assertEqual(gathered, LOOSE)
        alone = Gathered(1, [Leaf("p", "", "p")])
        self.assertEqual([alone.names(), alone.hops(), alone.leaves(), alone.gatherers()], [["p"], ["p"], ["p"], []])

    def test_hops_are_keepers_and_keys(self):
        gathered = Gathered(2, [Leaf("p", "0", "b", {"z": "y", "y": "b"}), Leaf("q", "1", "a")])
        self.assertEqual(gathered.hops(), ["a", "b", "y", "z"])

    def test_cells(self):
        self.assertEqual(LOOSE.cells(), cells(3, ["0", "00", "000", "001"]))
        self.assertEqual(LOOSE.cells(), [("", 4, "100"), ("0", 2, "010"), ("00", 0, None), ("000", 1, "000"),
                                         ("001", 1, "001")])
        gathered = Gathered(100, [Leaf("p", "1" * 100, "k"), Leaf("q", "0", "k")])
        self.assertEqual(gathered.cells(), [("", 2 ** 99 - 1, "1" + "0" * 99), ("0", 2 ** 99, "0" * 100),
                                            ("1" * 100, 1, "1" * 100)])

    def test_wrong_widths(self):
        for value in WRONG_WIDTHS:
            self.check(InvalidWidth, {"value": value}, Gathered, value, [P])
            self.check(InvalidWidth, {"value": value}, Gathered, value, None)

    def test_no_list_of_items(self):
        for value in WRONG_LISTS + [[], (), P, LOOSE, {"p": P}]:
            self.check(InvalidItems, {"position": None}, Gathered, 3, value)

    def test_wrong_items(self):
        for wrong in NO_ITEMS:
            self.check(InvalidItems, {"position": 0}, Gathered, 3, [wrong, P])
            self.check(InvalidItems, {"position": 2}, Gathered, 3, (G, P, wrong, P))
        for wrong in (Leaf("s", "0000", "k"), Gatherer("s", "0000", "k", ["p"]), Closed("s", "1" * 100, "k", ["t"])):
            self.check(InvalidItems, {"position": 0}, Gathered, 3, [wrong])
            self.check(InvalidItems, {"position": 1}, Gathered, 3, [P, wrong])
        for wrong in (Leaf("p", "1", "k"), Gatherer("p", "1", "k", ["q"]), Leaf("s", "000", "m"), P,
                      Closed("s", "000", "k", ["q"])):
            self.check(InvalidItems, {"position": 1}, Gathered, 3, [P, wrong, None])
            self.check(InvalidItems, {"position": 3}, Gathered, 3, (P, R, Q, wrong))
        self.check(InvalidItems, {"position": 2}, Gathered, 3, (G, Leaf("q", "1", "k"), Leaf("g", "11", "k")))

    def test_unknown_members(self):
        self.check(UnknownItem, {"value": "r"}, Gathered, 3, [P, Q, G])
        self.check(UnknownItem, {"value": "p"}, Gathered, 3, [Q, G])
        second = Closed("d", "", "k", ["g", "t", "s"])
        self.check(UnknownItem, {"value": "r"}, Gathered, 3, [P, Q, G, second])
        self.check(UnknownItem, {"value": "s"}, Gathered, 3, [P, Q, second, G])
        # Behind all these comes what is wrong with members that are there.
        self.check(UnknownItem, {"value": "t"}, Gathered, 3, [Gatherer("g", "1", "m", ["p"]), P,
                                                              Gatherer("d", "0", "k", ["p", "t"])])

    def test_wrong_members(self):
        leaf = Leaf("p", "010", "k", {"x": "k"})
        not_held = [Closed("g", "1", "k", ["p"]), Gatherer("g", "00", "k", ["p"]), Gatherer("g", "011", "k", ["p"])]
        not_longer = [Gatherer("g", "0100", "k", ["p"]), Closed("g", "0101", "k", ["p"])]
        not_seen = [Closed("g", "", "y", ["p"]), Gatherer("g", "01", "y", ["p"], {"k": "y"})]
        for gatherer in not_held + not_longer + not_seen:
            self.check(WrongMember, {"value": "p"}, Gathered, 4, [gatherer, leaf])
            self.check(WrongMember, {"value": "p"}, Gathered, 4, [leaf, gatherer, Leaf("q", "11", "k")])
        for gatherer in (Gatherer("g", "01", "k", ["p"]), Closed("g", "", "x", ["p"])):
            self.assertEqual(Gathered(3, [gatherer, leaf]).gatherers(), ["g"])

    def test_first_wrong_member(self):
        items = [Leaf("p", "00", "k"), Leaf("q", "11", "k"), Leaf("r", "01", "m")]
        self.check(WrongMember, {"value": "q"}, Gathered, 2, [*items, Gatherer("g", "0", "k", ["r", "q", "p"])])
        self.check(WrongMember, {"value": "r"}, Gathered, 2, [*items, Gatherer("g", "", "k", ["r", "q", "p"])])
        good = Gatherer("g", "0", "k", ["p"])
        self.check(WrongMember, {"value": "p"}, Gathered, 2, [*items, good, Closed("d", "", "k", ["q", "p"])])
        self.check(WrongMember, {"value": "p"}, Gathered, 2, [Closed("d", "", "k", ["q", "p"]), good, *items])
        self.check(WrongMember, {"value": "r"}, Gathered, 2, [good, Closed("d", "", "k", ["q", "r"]), *items,
                                                              Closed("e", "1", "m", ["p"])])
        self.assertEqual(len(Gathered(2, [good, Closed("d", "", "k", ["g", "q"]), *items])), 5)

    def test_gatherers_that_gather_one_another(self):
        one, other = Gatherer("d", "0", "k", ["e"]), Gatherer("e", "00", "k", ["d"])
        self.check(WrongMember, {"value": "d"}, Gathered, 2, [one, other])

    def test_too_many_hops(self):
        way = {"b": "a", "c": "b", "d": "c", "e": "d", "f": "e"}
        self.assertEqual(len(Gathered(1, [Leaf("p", "", "a", way)]).hops()), 6)
        self.check(TooMany, {"what": "hops", "limit": 6}, Gathered, 1, [Leaf("p", "", "a", {**way, "g": "f"})])
        seven = [Leaf("p", "", "a", way), Leaf("q", "0", "g")]
        self.check(TooMany, {"what": "hops", "limit": 6}, Gathered, 1, seven)
        self.check(UnknownItem, {"value": "s"}, Gathered, 1, [*seven, Gatherer("t", "1", "h", ["s"])])

    def test_too_many_leaves_and_gatherers(self):
        self.assertEqual(len(Gathered(3, leaves(6))), 6)
        self.check(TooMany, {"what": "leaves", "limit": 6}, Gathered, 3, leaves(7))
        self.check(TooMany, {"what": "hops", "limit": 6}, Gathered, 3,
                   [*leaves(6), Leaf("p", "11", "a", {hop: "a" for hop in "bcdefg"})])
        six = leaves(6)
        five = [Gatherer("g" + "abcde"[at], leaf.stretch[:2], "x", [leaf.name]) for at, leaf in enumerate(six[::2])]
        five = five + [Gatherer("gd", "0", "x", ["ga"]), Closed("ge", "", "x", ["gd"])]
        eleven = Gathered(3, [*six, *five])
        self.assertEqual([len(eleven), len(eleven.leaves()), len(eleven.gatherers())], [11, 6, 5])
        more = Gatherer("gf", "1", "x", ["gc"])
        self.check(TooMany, {"what": "gatherers", "limit": 5}, Gathered, 3, [*six, *five, more])
        self.check(TooMany, {"what": "leaves", "limit": 6}, Gathered, 3, [*six, *five, more, leaves(7)[-1]])
        self.check(WrongMember, {"value": "ga"}, Gathered, 3, [*leaves(7), *five, Gatherer("gf", "1", "x", ["ga"])])

    def test_too_many_nested(self):
        six = [Leaf("l" + "abcdef"[at], "0" * at, "x") for at in range(6)]
        self.assertEqual(len(Gathered(5, six[:5])), 5)
        self.assertEqual(len(Gathered(6, [*six[:5], Leaf("q", "00001", "x")][1:])), 5)
        self.check(TooMany, {"what": "nested", "limit": 5}, Gathered, 5, six)
        self.check(TooMany, {"what": "nested", "limit": 5}, Gathered, 9, [*six[:5], Leaf("q", "000001", "x")])
        chain = [Leaf("p", "00000", "x")]
        for at, name in enumerate(("ga", "gb", "gc", "gd", "ge")):
            chain.append(Gatherer(name, "0" * (4 - at), "x", [chain[-1].name]))
        self.assertEqual(len(Gathered(5, chain[:5])), 5)
        self.check(TooMany, {"what": "nested", "limit": 5}, Gathered, 5, chain)
        self.check(TooMany, {"what": "leaves", "limit": 6}, Gathered, 9, [*six, Leaf("q", "1", "x")])

    def test_what_was_passed_stays(self):
        items = [G, P, R, Q]
        gathered = Gathered(3, items)
        self.assertEqual(items, [G, P, R, Q])
        items.clear()
        self.assertEqual(gathered, LOOSE)
        for action in (LOOSE.names, LOOSE.hops, LOOSE.leaves, LOOSE.gatherers, LOOSE.cells, LOOSE.standing):
            self.check_new(action)
        self.check_new(LOOSE.way, "h", "000", ["p"])
        self.check_new(LOOSE.standing, ["r", "p"])
        self.check_new(LOOSE.end, "h", "000", ["r", "p"])


class Signs(Case):
    def test_items(self):
        self.assertEqual([LOOSE["g"], LOOSE["q"]], [G, Q])
        self.assertIs(type(LOOSE.with_hole("g")["g"]), Closed)
        self.check_item(LOOSE.__getitem__, "k", "h")
        for value in (None, True, 0, "", "k", "h", "pq", [], ["p"], ("p",), {}, P, LOOSE):
            self.assertIs(value in LOOSE, False)
        with self.assertRaises(TypeError):
            iter(LOOSE)

    def test_an_item_more(self):
        base = Gathered(3, [P, R, Q])
        self.assertEqual(base + G, LOOSE)
        self.assertEqual(base.names(), ["p", "q", "r"])
        for wrong in NO_ITEMS:
            self.check(InvalidItems, {"position": None}, lambda: LOOSE + wrong)
        for wrong in (Leaf("p", "1", "k"), Leaf("s", "000", "k"), Leaf("s", "0000", "k"), G,
                      Gatherer("g", "1", "k", ["none"[:2]])):
            self.check(InvalidItems, {"position": 4}, lambda: LOOSE + wrong)
        self.check(InvalidItems, {"position": 3}, lambda: base + Gatherer("q", "1", "k", ["t"]))
        self.check(UnknownItem, {"value": "s"}, lambda: LOOSE + Gatherer("d", "", "k", ["t", "s", "q"]))
        self.check(WrongMember, {"value": "p"}, lambda: LOOSE + Gatherer("d", "", "k", ["p"]))
        self.check(WrongMember, {"value": "q"}, lambda: LOOSE + Closed("d", "", "x", ["q"], {"k": "x"}))
        self.check(TooMany, {"what": "hops", "limit": 6},
                   lambda: LOOSE + Leaf("s", "", "a", {"b": "a", "c": "b", "d": "c"}))
        self.check(TooMany, {"what": "leaves", "limit": 6}, lambda: Gathered(3, leaves(6)) + leaves(7)[-1])
        self.assertEqual(LOOSE, Gathered(3, [P, R, Q, G]))

    def test_hole_rows(self):
        closed = LOOSE.with_hole("g")
        self.assertEqual(closed, Gathered(3, [P, R, Q, Closed("g", "00", "k", ["p", "r"], {"h": "k"})]))
        self.assertEqual([closed.with_hole("g"), LOOSE.without_hole(name="g")], [closed, LOOSE])
        self.assertEqual([closed.without_hole("g"), LOOSE.with_hole(name="g")], [LOOSE, closed])
        self.assertIs(type(closed.without_hole("g")["g"]), Gatherer)
        for action in (LOOSE.with_hole, LOOSE.without_hole, closed.with_hole, closed.without_hole):
            self.check_item(action, "p", "q", "r", "h", "k")

    def test_equal_ones(self):
        self.assertTrue(LOOSE == Gathered(3, [G, R, Q, P]))
        self.assertFalse(LOOSE != Gathered(3, (Q, R, G, P)))
        for other in (Gathered(4, [P, R, Q, G]), Gathered(3, [P, R, Q]), LOOSE.with_hole("g"), None, "x", [P, R, Q, G],
                      Gathered(3, [P, R, Leaf("q", "0", "m", {"k": "m", "h": "m"}), G]), LOOSE.names(), repr(LOOSE)):
            self.assertFalse(LOOSE == other)
            self.assertTrue(LOOSE != other)

    def test_shown(self):
        self.assertEqual(repr(Gathered(2, [Leaf("p", "00", "k")])), "Gathered(2, [Leaf('p', '00', 'k', {})])")
        told = ("Gathered(3, [Closed('g', '00', 'k', ['p', 'r'], {'h': 'k'}), Leaf('p', '000', 'k', {}), "
                "Leaf('q', '0', 'm', {'h': 'm', 'k': 'h'}), Leaf('r', '001', 'k', {})])")
        self.assertEqual(repr(LOOSE.with_hole("g")), told)
        self.assertEqual(repr(Gathered(3, [Q, G, R, P])), told.replace("Closed", "Gatherer"))


class Standing(Case):
    def test_word_for_word(self):
        chance = random.Random(91)
        for _ in range(150):
            gathered = random_gathered(chance)
            for withdrawn in all_withdrawn(gathered):
                told = [name for name in gathered.names() if stands_by_words(gathered, name, withdrawn)]
                self.assertEqual(gathered.standing(withdrawn), told)
                for name in gathered.names():
                    self.assertIs(gathered.stands(name, withdrawn), name in told)

    def test_by_one_member_alone(self):
        self.assertEqual([LOOSE.standing(), LOOSE.standing(["p"]), LOOSE.standing(("r", "q"))],
                         [["g", "p", "q", "r"], ["g", "q", "r"], ["g", "p"]])
        self.assertEqual(LOOSE.standing(withdrawn=["p", "r"]), ["q"])
        self.assertEqual([LOOSE.stands("g"), LOOSE.stands("g", ["r"]), LOOSE.stands(withdrawn=["r", "p"], name="g")],
                         [True, True, False])

    def test_by_a_gatherer_that_is_its_member(self):
        outer = LOOSE + Gatherer("d", "", "h", ["q", "g"])
        self.assertEqual(outer.standing(["q", "r"]), ["d", "g", "p"])
        self.assertEqual([outer.stands("d", ["p", "q"]), outer.stands("d", ["p", "q", "r"])], [True, False])
        self.assertEqual([outer.standing(["p", "r"]), outer.standing(["p", "q", "r"])], [["d", "q"], []])
        chain = [Leaf("p", "0000", "x"), Gatherer("a", "000", "x", ["p"]), Closed("b", "00", "x", ["a"]),
                 Gatherer("c", "0", "x", ["b"])]
        self.assertEqual([Gathered(4, chain).standing(), Gathered(4, chain).standing(["p"])], [["a", "b", "c", "p"], []])

    def test_wrong_values(self):
        self.check_item(lambda name: GATHERED_FIVE.stands(name))
        self.check_item(lambda name: GATHERED_FIVE.stands(name, None))
        self.check_withdrawn(lambda withdrawn: GATHERED_FIVE.stands("g", withdrawn))
        self.check_withdrawn(GATHERED_FIVE.standing)


class Sending(Case):
    def test_word_for_word(self):
        chance = random.Random(92)
        ends = {"home": 0, "hole": 0, "ring": 0}
        for _ in range(250):
            gathered = random_gathered(chance)
            places = list(product(gathered.hops(), strings(gathered.width)))
            for withdrawn, (hop, address) in product(all_withdrawn(gathered), places):
                item = sent_by_words(gathered, hop, address, withdrawn)
                self.assertEqual(gathered.sent_by(hop, address, withdrawn), item and item.name)
                way, end, _, _ = way_of_gathered_by_words(gathered, hop, address, withdrawn)
                self.assertEqual(gathered.way(hop, address, withdrawn), way)
                self.assertEqual(gathered.end(hop, address, withdrawn), end)
                ends[end] += 1
        self.assertGreater(min(ends.values()), 500)

    def test_the_longest_that_stands_and_is_seen(self):
        self.assertEqual([LOOSE.sent_by("h", "000"), LOOSE.sent_by("k", "000"), LOOSE.sent_by("m", "000")],
                         ["g", "p", "q"])
        self.assertEqual([LOOSE.sent_by("h", "010"), LOOSE.sent_by("k", "111"), LOOSE.sent_by("h", "000", ["p", "r"])],
                         ["q", None, "q"])
        self.assertEqual([LOOSE.way("h", "000"), LOOSE.end("h", "000"), LOOSE.way("k", "010"), LOOSE.end("k", "010")],
                         [["h", "k"], "home", ["k", "h", "m"], "home"])
        self.assertEqual([LOOSE.way("k", "111"), LOOSE.end("k", "111")], [["k"], "hole"])

    def test_never_without_a_hole_row_at_its_keeper(self):
        self.assertEqual([LOOSE.sent_by("k", "000", ["p"]), LOOSE.way("k", "000", ["p"]), LOOSE.end("k", "000", ["p"])],
                         ["q", ["k", "h"], "ring"])
        closed = LOOSE.with_hole("g")
        self.assertEqual([closed.sent_by("k", "000", ["p"]), closed.way("h", "000", ["p"]), closed.end("h", "000", ["p"])],
                         ["g", ["h", "k"], "hole"])
        self.assertEqual([LOOSE.sent_by("k", "000", ["p", "q"]), LOOSE.end("k", "000", ["p", "q"])], [None, "hole"])
        self.assertEqual(closed.way(withdrawn=["p"], address="000", hop="h"), ["h", "k"])

    def test_lengths_never_fall_with_all_hole_rows(self):
        chance = random.Random(93)
        for _ in range(200):
            gathered = random_gathered(chance)
            for name in gathered.gatherers():
                gathered = gathered.with_hole(name)
            places = list(product(gathered.hops(), strings(gathered.width)))
            for withdrawn, (hop, address) in product(all_withdrawn(gathered), places):
                way = gathered.way(hop, address, withdrawn)
                sent = [gathered.sent_by(place, address, withdrawn) for place in way]
                lengths = [len(gathered[name].stretch) for name in sent if name is not None]
                self.assertEqual(lengths, sorted(lengths))
                self.assertNotEqual(gathered.end(hop, address, withdrawn), "ring")

    def test_great_widths(self):
        for width in (64, 99, 100):
            low, last = "0" * width, "0" * (width - 1) + "1"
            leaf = Leaf("p", low, "k", {"h": "k"})
            gathered = Gathered(width, [leaf, Gatherer("g", low[1:], "k", ["p"], {"h": "k"}), Leaf("q", "", "h", {"k": "h"})])
            self.assertEqual([gathered.sent_by("h", low), gathered.end("h", low), gathered.way("h", low)],
                             ["p", "home", ["h", "k"]])
            self.assertEqual([gathered.sent_by("h", last), gathered.end("h", last), gathered.sent_by("k", last)],
                             ["g", "ring", "q"])
            self.assertEqual([gathered.end("k", "1" * width), gathered.end("h", last, ["p"])], ["home", "home"])

    def test_six_hops(self):
        way = {one: other for one, other in zip(HOPS, HOPS[1:])}
        gathered = Gathered(1, [Leaf("p", "", HOPS[-1], way)])
        self.assertEqual([gathered.way("a", "0"), gathered.end("a", "1"), gathered.end("a", "0", ["p"])],
                         [list(HOPS), "home", "hole"])

    def test_wrong_values(self):
        for action in (GATHERED_FIVE.sent_by, GATHERED_FIVE.way, GATHERED_FIVE.end):
            self.check_hop(lambda hop: action(hop, "00000"))
            self.check_address(lambda address: action("x", address))
            self.check_withdrawn(lambda withdrawn: action("x", "00000", withdrawn))
            self.check(UnknownHop, {"value": "p"}, action, "p", "2", None)
            self.check(InvalidAddress, {"value": "0000"}, action, "y", "0000", ["g"])
            self.check(InvalidWithdrawn, {"position": 1}, action, "y", "00000", ["p", "g"])
