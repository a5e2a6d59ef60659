"""Gathering and dropping: ways cut, strangers, rows saved, and same ends."""

import random
from itertools import product

from coverways.errors import (InvalidItems, InvalidRegion, InvalidWay, OtherHops, OtherWidth, Stranger, TooMany,
                              UnknownItem, WrongMember)
from coverways.gathered import Gathered
from coverways.gathering import drop, gather, rows_saved, same_ends
from coverways.items import Closed, Gatherer, Item, Leaf
from coverways.served import first_straying, served
from coverways.withdrawals import is_safe
from tests.support import WRONG_ELEMENTS, WRONG_LISTS, Case, random_gathered, random_way, stretches_to, strings

Q = Leaf("q", "0", "m", {"k": "h", "h": "m"})
WIDE = Gathered(3, [Leaf("p", "000", "k", {"h": "k"}), Leaf("r", "001", "k", {"h": "k"}), Q])
CLOSED = Closed("g", "00", "k", ["p", "r"], {"h": "k"})
NEAR = gather(WIDE, CLOSED, ["k"])

# Two leaves at a and b, seen all over; c and d are between them and far.
FAR = Gathered(4, [Leaf("p", "0000", "a", {"b": "a", "c": "b", "d": "c"}),
                   Leaf("q", "0001", "b", {"a": "b", "c": "b", "d": "c"}), Leaf("s", "01", "c", {"b": "c"})])
OVER = Gatherer("g", "000", "b", ["p", "q"], {"c": "b", "d": "c"})


def gathered_by_words(gathered, item, region):
    """What the document says of ways and places: the first error that belongs to them, or the items."""
    members = [gathered[name] for name in item.members()]
    keepers = {item.keeper} | {member.keeper for member in members}
    inside = all(member.way()[hop] in region for member in members for hop in member.way() if hop in region)
    if not keepers <= set(region) or not inside:
        return InvalidRegion, {"position": None}
    outside = {hop for member in members for hop in member.sees()} - set(region)
    if not outside <= set(item.way()) or set(region) & set(item.way()):
        return InvalidWay, {"value": item.way()}
    for name in gathered.names():
        stretch = gathered[name].stretch
        if name not in item.members() and stretch.startswith(item.stretch):
            if any(member.stretch.startswith(stretch) and member.stretch != stretch for member in members):
                return Stranger, {"value": name}
    items = []
    for name in gathered.names():
        one = gathered[name]
        way = one.way()
        if name in item.members():
            way = {hop: goal for hop, goal in way.items() if hop in region}
        parts = [one.members()] if isinstance(one, Gatherer) else []
        items.append(type(one)(name, one.stretch, one.keeper, *parts, way))
    return items + [item]


def outcome(action, *values):
    """What the action returns, or the kind and the attributes of its error."""
    try:
        return action(*values)
    except Exception as error:
        return type(error), vars(error)


class Gathering(Case):
    def test_word_for_word(self):
        chance = random.Random(131)
        found = {}
        for _ in range(3000):
            gathered = random_gathered(chance, most_gatherers=2)
            names = chance.sample(gathered.names(), chance.randrange(1, min(3, len(gathered)) + 1))
            keepers = sorted({gathered[name].keeper for name in names})
            others = [hop for hop in gathered.hops() if hop not in keepers and chance.randrange(3) == 0]
            region = keepers + others
            chance.shuffle(region)
            outside = [hop for hop in gathered.hops() if hop not in region]
            keeper = chance.choice(keepers) if chance.randrange(8) else chance.choice(gathered.hops())
            inner = chance.choice(names)
            stretch = gathered[inner].stretch[:chance.randrange(len(gathered[inner].stretch) + 1)]
            kind = chance.choice([Gatherer, Closed])
            way = {}
            for hop in outside:
                if hop != keeper and chance.randrange(6):
                    way[hop] = chance.choice([keeper, *way])
            item = kind("n", stretch, keeper, names, way)
            told = gathered_by_words(gathered, item, region)
            expected = told if isinstance(told, tuple) else outcome(Gathered, gathered.width, told)
            self.assertEqual(outcome(gather, gathered, item, region), expected)
            self.assertEqual(outcome(gather, gathered, item, tuple(region)), expected)
            key = expected[0].__name__ if isinstance(expected, tuple) else "made"
            found[key] = found.get(key, 0) + 1
        for key in ("made", "InvalidRegion", "InvalidWay", "Stranger", "InvalidItems", "WrongMember"):
            self.assertGreater(found.get(key, 0), 15, (key, found))

    def test_region_of_one_hop(self):
        self.assertEqual(NEAR.names(), ["g", "p", "q", "r"])
        self.assertEqual([NEAR["p"], NEAR["r"], NEAR["q"], NEAR["g"]],
                         [Leaf("p", "000", "k"), Leaf("r", "001", "k"), Q, CLOSED])
        self.assertEqual(gather(region=("k",), item=CLOSED, gathered=WIDE), NEAR)
        self.assertEqual(WIDE["p"].way(), {"h": "k"})
        loose = gather(WIDE, Gatherer("g", "00", "k", ["r", "p"], {"h": "k"}), ["k"])
        self.assertEqual([loose, is_safe(loose), is_safe(NEAR)], [NEAR.without_hole("g"), False, True])

    def test_region_of_several_hops(self):
        told = gather(FAR, OVER, ["b", "a"])
        self.assertEqual([told["p"].way(), told["q"].way(), told["s"], told["g"]],
                         [{"b": "a"}, {"a": "b"}, FAR["s"], OVER])
        self.assertEqual([rows_saved(FAR, told), told.way("d", "0000"), told.end("d", "0001")],
                         [2, ["d", "c", "b", "a"], "home"])
        self.assertTrue(same_ends(FAR, told))
        wider = gather(FAR, Closed("g", "0", "c", ["s"], {"d": "c"}), ["c", "b"])
        self.assertEqual([wider["s"].way(), wider["p"].way()], [{"b": "c"}, FAR["p"].way()])

    def test_other_keys_may_be_new_hops(self):
        told = gather(WIDE, Closed("g", "00", "k", ["p", "r"], {"h": "k", "w": "h", "m": "k"}), ["k"])
        self.assertEqual([told.hops(), told["g"].sees()], [["h", "k", "m", "w"], ["h", "k", "m", "w"]])
        self.assertEqual(told.way("w", "000"), ["w", "h", "k"])
        many = {"h": "k", "a": "k", "b": "k", "c": "k", "d": "k"}
        self.check(TooMany, {"what": "hops", "limit": 6}, gather, WIDE, Closed("g", "00", "k", ["p"], many), ["k"])

    def test_gatherers_are_members_too(self):
        twice = gather(NEAR, Gatherer("d", "", "h", ["g", "q"]), ["h", "k", "m"])
        self.assertEqual([twice["g"], twice["q"]], [CLOSED, Q])
        self.assertEqual(twice.standing(["p", "q"]), ["d", "g", "r"])
        base = Gathered(3, [*[NEAR[name] for name in "pr"], CLOSED])
        cut = gather(base, Closed("d", "0", "k", ["g"], {"h": "k"}), ["k"])
        self.assertEqual([cut["g"], cut["p"]], [Closed("g", "00", "k", ["p", "r"]), NEAR["p"]])
        self.assertEqual(gather(base.without_hole("g"), Closed("d", "0", "k", ["g"], {"h": "k"}), ["k"])["g"],
                         Gatherer("g", "00", "k", ["p", "r"]))

    def test_wrong_items(self):
        for wrong in WRONG_ELEMENTS + [Leaf("g", "00", "k"), Item("g", "00", "k"), WIDE, ["p"], Gatherer]:
            self.check(InvalidItems, {"position": None}, gather, WIDE, wrong, ["k"])
            self.check(InvalidItems, {"position": None}, gather, WIDE, wrong, None)

    def test_unknown_members(self):
        for region in (["k"], None, ["x"]):
            item = Closed("g", "11", "z", ["t", "p", "s"], {"k": "z"})
            self.check(UnknownItem, {"value": "s"}, gather, WIDE, item, region)
        self.check(UnknownItem, {"value": "k"}, gather, WIDE, Gatherer("g", "00", "k", ["r", "k"]), ["k"])

    def test_wrong_regions(self):
        for value in WRONG_LISTS + ["k", {"k": 1}, WIDE]:
            self.check(InvalidRegion, {"position": None}, gather, WIDE, CLOSED, value)
        for wrong in WRONG_ELEMENTS + ["", "p", "x", "hk", "home", ["k"], ("k",), WIDE["p"]]:
            self.check(InvalidRegion, {"position": 0}, gather, WIDE, CLOSED, [wrong])
            self.check(InvalidRegion, {"position": 1}, gather, WIDE, CLOSED, ("h", wrong, "h"))
        self.check(InvalidRegion, {"position": 1}, gather, WIDE, CLOSED, ["k", "k"])
        self.check(InvalidRegion, {"position": 2}, gather, WIDE, CLOSED, ["k", "h", "k", None])
        for region in ([], (), ["h"], ["m", "h"]):
            self.check(InvalidRegion, {"position": None}, gather, WIDE, CLOSED, region)

    def test_regions_without_a_keeper_or_with_a_way_out(self):
        for region in (["b"], ["a"], ["c", "d"]):
            self.check(InvalidRegion, {"position": None}, gather, FAR, OVER, region)
        self.check(InvalidRegion, {"position": None}, gather, FAR, Gatherer("g", "000", "c", ["p", "q"]), ["a", "b"])
        # From d the ways go to c, which is outside.
        self.check(InvalidRegion, {"position": None}, gather, FAR, OVER, ["a", "b", "d"])
        self.assertEqual(gather(FAR, Gatherer("g", "000", "b", ["p", "q"]), ["a", "b", "c", "d"])["p"], FAR["p"])

    def test_wrong_ways(self):
        for way in ({}, {"c": "b"}, {"d": "b"}, {"a": "b", "c": "b", "d": "c"}, {"d": "a", "a": "b", "c": "b"}):
            item = Gatherer("g", "000", "b", ["p", "q"], way)
            self.check(InvalidWay, {"value": way}, gather, FAR, item, ["a", "b"])
        self.check(InvalidWay, {"value": {"m": "k"}}, gather, WIDE, Closed("g", "00", "k", ["p"], {"m": "k"}), ["k"])
        self.check(InvalidWay, {"value": {"h": "k"}}, gather, WIDE, Closed("g", "00", "k", ["p"], {"h": "k"}), ["h", "k"])

    def test_strangers(self):
        items = [Leaf("p", "0000", "k"), Leaf("q", "1", "k"), Leaf("t", "000", "k"), Leaf("s", "00", "k")]
        gathered = Gathered(4, items)
        self.check(Stranger, {"value": "s"}, gather, gathered, Closed("g", "0", "k", ["p"]), ["k"])
        self.check(Stranger, {"value": "t"}, gather, gathered, Closed("g", "0", "k", ["p", "s"]), ["k"])
        self.check(Stranger, {"value": "s"}, gather, gathered, Closed("g", "0", "k", ["p", "t"]), ["k"])
        # A stretch holds itself, so the one that has the new one's stretch is a stranger, too.
        self.check(Stranger, {"value": "s"}, gather, gathered, Closed("g", "00", "k", ["t"]), ["k"])
        self.check(Stranger, {"value": "t"}, gather, gathered, Closed("g", "000", "k", ["p"]), ["k"])
        for members in (["s"], ["p", "s", "t"], ["q"], ["q", "s"]):
            told = gather(gathered, Closed("g", "", "k", members), ["k"])
            self.assertEqual(told["g"].members(), members)
        self.assertEqual(gather(gathered, Closed("g", "0", "k", ["s"]), ["k"])["g"].members(), ["s"])

    def test_errors_of_gathered(self):
        self.check(InvalidItems, {"position": 3}, gather, WIDE, Closed("q", "00", "k", ["p", "r"], {"h": "k"}), ["k"])
        self.check(InvalidItems, {"position": 3}, gather, WIDE, Closed("p", "00", "k", ["r"], {"h": "k"}), ["k"])
        self.check(InvalidItems, {"position": 3}, gather, WIDE, Closed("g", "0000", "k", ["p"], {"h": "k"}), ["k"])
        self.check(InvalidItems, {"position": 3}, gather, WIDE, Closed("g", "000", "k", ["p"], {"h": "k"}), ["k"])
        self.check(WrongMember, {"value": "p"}, gather, WIDE, Closed("g", "01", "k", ["p"], {"h": "k"}), ["k"])
        base = Gathered(3, [NEAR["p"], NEAR["r"], CLOSED])
        self.check(WrongMember, {"value": "r"}, gather, base, Closed("d", "0", "k", ["g", "r"], {"h": "k"}), ["k"])
        self.check(WrongMember, {"value": "p"}, gather, WIDE, Closed("g", "00", "m", ["p"], {"h": "m"}), ["k", "m"])
        leaves = [Leaf("l" + letter, bits, "k") for letter, bits in zip("abcde", strings(3))]
        full = Gathered(3, [*leaves, *[Gatherer("g" + letter, bits, "k", [name]) for letter, bits, name in
                                       (("a", "00", "la"), ("b", "01", "lc"), ("c", "10", "le"), ("d", "0", "ga"),
                                        ("e", "1", "gc"))]])
        self.check(TooMany, {"what": "gatherers", "limit": 5}, gather, full, Closed("h", "", "k", ["gd"]), ["k"])

    def test_sequence_of_errors(self):
        bad_way = Closed("g", "", "k", ["p"], {"m": "k"})
        self.check(InvalidRegion, {"position": 0}, gather, WIDE, bad_way, ["x"])
        self.check(InvalidRegion, {"position": None}, gather, WIDE, bad_way, ["m"])
        self.check(InvalidWay, {"value": {"m": "k"}}, gather, WIDE, bad_way, ["k"])
        self.check(Stranger, {"value": "q"}, gather, WIDE, Closed("p", "", "k", ["r"], {"h": "k"}), ["k"])

    def test_nothing_changes(self):
        region = ["k"]
        self.check_new(gather, WIDE, CLOSED, region)
        self.check_new(drop, NEAR, "g")
        self.check_new(rows_saved, WIDE, NEAR)
        self.check_new(same_ends, WIDE, NEAR)
        self.assertEqual(region, ["k"])


class Dropping(Case):
    def test_word_for_word(self):
        chance = random.Random(132)
        done = {True: 0, False: 0}
        for _ in range(300):
            gathered = random_gathered(chance)
            for name in gathered.gatherers():
                outer = [other for other in gathered.gatherers() if gathered[other].members() == [name]]
                done[bool(outer)] += 1
                if outer:
                    self.check(WrongMember, {"value": outer[0]}, drop, gathered, name)
                    continue
                told = drop(gathered, name)
                self.assertEqual(told.names(), [other for other in gathered.names() if other != name])
                for other in told.names():
                    self.assertIs(type(told[other]), type(gathered[other]))
                    self.assertEqual([told[other].way(), told[other].stretch, told[other].keeper],
                                     [gathered[other].way(), gathered[other].stretch, gathered[other].keeper])
                    if other in told.gatherers():
                        self.assertEqual(told[other].members(),
                                         [member for member in gathered[other].members() if member != name])
        self.assertGreater(min(done.values()), 10)

    def test_by_hand(self):
        dropped = drop(NEAR, "g")
        self.assertEqual(dropped, Gathered(3, [Leaf("p", "000", "k"), Leaf("r", "001", "k"), Q]))
        self.assertEqual(drop(name="g", gathered=NEAR)["p"].sees(), ["k"])
        twice = gather(NEAR, Gatherer("d", "", "h", ["g", "q"]), ["h", "k", "m"])
        self.assertEqual([drop(twice, "g")["d"].members(), drop(twice, "d")], [["q"], NEAR])
        self.assertEqual(drop(twice.with_hole("d"), "g")["d"], Closed("d", "", "h", ["q"]))

    def test_the_only_member(self):
        chain = Gathered(3, [Leaf("p", "000", "k"), Gatherer("c", "00", "k", ["p"]), Gatherer("b", "0", "k", ["c"]),
                             Closed("a", "", "k", ["b"])])
        self.check(WrongMember, {"value": "a"}, drop, chain, "b")
        self.check(WrongMember, {"value": "b"}, drop, chain, "c")
        self.assertEqual(drop(drop(drop(chain, "a"), "b"), "c"), Gathered(3, [Leaf("p", "000", "k")]))

    def test_hops_can_go(self):
        gathered = Gathered(2, [Leaf("p", "00", "k"), Gatherer("g", "0", "k", ["p"], {"y": "k", "z": "y"})])
        self.assertEqual([gathered.hops(), drop(gathered, "g").hops()], [["k", "y", "z"], ["k"]])

    def test_wrong_names(self):
        self.check_item(lambda name: drop(NEAR, name), "p", "q", "k")


class Compared(Case):
    def test_rows_saved(self):
        self.assertEqual([rows_saved(WIDE, NEAR), rows_saved(WIDE, NEAR.without_hole("g")), rows_saved(NEAR, NEAR)],
                         [0, 1, 0])
        self.assertEqual([rows_saved(NEAR.without_hole("g"), NEAR), rows_saved(WIDE, Gathered(3, [Q]))], [-1, 4])
        # Whatever the widths and hops are.
        alone = Gathered(9, [Leaf("p", "", "z")])
        self.assertEqual([rows_saved(alone, WIDE), rows_saved(other=alone, one=WIDE)], [-6, 6])
        chance = random.Random(133)
        for _ in range(60):
            one, other = random_gathered(chance), random_gathered(chance)
            saved = rows_saved(one, other)
            self.assertEqual([saved, type(saved)], [served(one).many_rows - served(other).many_rows, int])

    def test_same_ends_word_for_word(self):
        chance = random.Random(134)
        found = {True: 0, False: 0}
        while min(found.values()) < 40:
            one = random_gathered(chance, 3, 3)
            other = self.changed(chance, one)
            if one.hops() != other.hops():
                self.check(OtherHops, {"one": one.hops(), "other": other.hops()}, same_ends, one, other)
                continue
            net, beside = served(one), served(other)
            told = all(beside.fate(hop, address) == net.fate(hop, address)
                       for hop, address in product(net.hops(), strings(net.width)) if net.end(hop, address) == "home")
            self.assertIs(same_ends(one, other), told)
            found[told] += 1

    def changed(self, chance, gathered):
        """The gathered net with an item in another way, or without a gatherer."""
        items = {name: gathered[name] for name in gathered.names()}
        name = chance.choice(gathered.leaves())
        keeper = chance.choice(gathered.hops())
        unused = [bits for bits in stretches_to(gathered.width) if bits not in [item.stretch for item in items.values()]]
        if chance.randrange(3) == 0 and gathered.gatherers():
            return outcome_or(gathered, lambda: drop(gathered, chance.choice(gathered.gatherers())))
        if unused and chance.randrange(2):
            more = Leaf("zz", chance.choice(unused), keeper, random_way(chance, gathered.hops(), keeper))
            return outcome_or(gathered, lambda: gathered + more)
        items[name] = Leaf(name, items[name].stretch, keeper, random_way(chance, gathered.hops(), keeper))
        return outcome_or(gathered, lambda: Gathered(gathered.width, list(items.values())))

    def test_same_ends_by_hand(self):
        self.assertEqual([same_ends(WIDE, NEAR), same_ends(NEAR, WIDE), same_ends(WIDE, WIDE)], [True, True, True])
        # After the drop h sends 000 and 001 by q, so they end with "home" at m, not at k.
        dropped = drop(NEAR, "g")
        self.assertEqual([dropped.end("h", "000"), dropped.way("h", "000")], ["home", ["h", "m"]])
        self.assertEqual([same_ends(NEAR, dropped), same_ends(dropped, NEAR)], [False, False])
        # What does not end with "home" in the first one does not count.
        less = Gathered(3, [Leaf("p", "000", "k"), Leaf("q", "01", "m", {"k": "h", "h": "m"})])
        self.assertEqual([same_ends(less, WIDE), same_ends(WIDE, less)], [True, False])

    def test_great_widths(self):
        for width in (64, 99, 100):
            one = Gathered(width, [Leaf("p", "0" * width, "k", {"h": "k"}), Leaf("q", "", "h", {"k": "h"})])
            other = one + Leaf("s", "1" * width, "k", {"h": "k"})
            self.assertEqual([same_ends(one, one), same_ends(one, other), same_ends(other, one)], [True, False, False])
            self.assertEqual([first_straying(one), rows_saved(other, one)], [None, 2])

    def test_other_widths_and_hops(self):
        alone = Gathered(9, [Leaf("p", "", "z")])
        self.check(OtherWidth, {"one": 3, "other": 9}, same_ends, WIDE, alone)
        self.check(OtherWidth, {"one": 9, "other": 3}, same_ends, alone, WIDE)
        third = Gathered(3, [Leaf("p", "", "z")])
        self.check(OtherHops, {"one": ["h", "k", "m"], "other": ["z"]}, same_ends, WIDE, third)
        self.check(OtherHops, {"one": ["z"], "other": ["h", "k", "m"]}, same_ends, other=WIDE, one=third)


def outcome_or(default, action):
    """What the action returns; the default if it raises an error."""
    try:
        return action()
    except (WrongMember, TooMany):
        return default
