"""What becomes of addresses for all withdrawn leaves: patterns, papers, falls and least sets."""

import copy
import random
from itertools import combinations, product

from coverways.errors import InvalidAddress, InvalidMembers, InvalidWithdrawn, UnknownHop
from coverways.gathered import Gathered
from coverways.items import Closed, Gatherer, Leaf
from coverways.tables import Table
from coverways.withdrawals import (are_safe_ranks, falls, is_enough, is_round_paper, is_safe, least_sets, patterns,
                                   ringing_number, round_paper, safe_ranks)
from tests.support import (GATHERED_FIVE, HOPS, WRONG_ELEMENTS, WRONG_LISTS, Case, all_withdrawn, random_gathered,
                           sent_by_words, stands_by_words, strings, way_of_gathered_by_words)

LOOSE = Gathered(3, [Leaf("p", "000", "k"), Leaf("r", "001", "k"), Leaf("q", "0", "m", {"k": "h", "h": "m"}),
                     Gatherer("g", "00", "k", ["r", "p"], {"h": "k"})])
SAFE = LOOSE.with_hole("g")
SMALL = Gathered(1, [Leaf("p", "0", "x", {"y": "x"})])
SMALL_RANKS = {"": {(): {"x": 0, "y": 0}}, "0": {(): {"x": 0, "y": 0}, ("p",): {"x": 0, "y": 1}}}

# Two gatherers, each of which alone makes rings: d at x towards y, e at y towards x.
BOTH = Gathered(3, [Leaf("p", "000", "x"), Leaf("q", "001", "x"), Leaf("r", "01", "y"), Leaf("s", "", "y", {"x": "y"}),
                    Gatherer("d", "00", "x", ["p", "q"], {"y": "x"}), Gatherer("e", "0", "y", ["r"], {"x": "y"})])


def rings_by_words(gathered, address, withdrawn):
    """The set of the hops that the address passes again and again, for each hop."""
    told = [way_of_gathered_by_words(gathered, hop, address, withdrawn)[3] for hop in gathered.hops()]
    return {frozenset(ring) for ring in told if ring}


def ringing_by_words(gathered):
    """The addresses that ring from some hop for some withdrawn leaves."""
    return [address for address in strings(gathered.width)
            if any(rings_by_words(gathered, address, withdrawn) for withdrawn in all_withdrawn(gathered))]


def ringing_nets(seed, many):
    """So many gathered nets in which some address rings for some withdrawn leaves."""
    chance = random.Random(seed)
    found = 0
    while found < many:
        gathered = random_gathered(chance)
        if ringing_by_words(gathered):
            found = found + 1
            yield gathered


def with_holes(gathered, names):
    """The gathered net in which just these gatherers have hole rows."""
    for name in gathered.gatherers():
        gathered = gathered.with_hole(name) if name in names else gathered.without_hole(name)
    return gathered


def parts_of(values):
    """All parts of a list, as tuples."""
    return [part for many in range(len(values) + 1) for part in combinations(values, many)]


class AllWithdrawals(Case):
    def test_small_gathered_nets(self):
        chance = random.Random(101)
        found = {True: 0, False: 0}
        for _ in range(250):
            gathered = random_gathered(chance)
            ringing = ringing_by_words(gathered)
            found[not ringing] += 1
            self.assertIs(is_safe(gathered), not ringing)
            self.assertEqual(ringing_number(gathered), len(ringing))
            self.check_papers(gathered, ringing)
        self.assertGreater(min(found.values()), 20)

    def check_papers(self, gathered, ringing):
        """That there are just either safe ranks or a round paper, and what they say is so."""
        if ringing:
            self.assertIsNone(safe_ranks(gathered))
            address, withdrawn, ring = round_paper(gathered)
            self.assertEqual([type(withdrawn), type(ring), withdrawn], [list, list, sorted(withdrawn)])
            self.assertTrue(is_round_paper(gathered, (address, withdrawn, ring)))
            self.assertIn(frozenset(ring), rings_by_words(gathered, address, withdrawn))
            return
        self.assertIsNone(round_paper(gathered))
        told = safe_ranks(gathered)
        self.assertTrue(are_safe_ranks(gathered, told))
        cells = {stretch: address for stretch, many, address in gathered.cells() if many}
        self.assertEqual(list(told), list(cells))
        for stretch, address in cells.items():
            self.assertEqual(list(told[stretch]), patterns(gathered, address))
            for ranked in told[stretch].values():
                self.assertEqual(list(ranked), gathered.hops())
        for withdrawn, address, hop in product(all_withdrawn(gathered), cells.values(), gathered.hops()):
            stretch = [key for key in cells if cells[key] == address][0]
            pattern = tuple(name for name in gathered.standing(withdrawn)
                            if address.startswith(gathered[name].stretch))
            way = gathered.way(hop, address, withdrawn)
            ranked = [told[stretch][pattern][place] for place in way]
            self.assertEqual(ranked, sorted(set(ranked), reverse=True))

    def test_patterns(self):
        chance = random.Random(102)
        for _ in range(100):
            gathered = random_gathered(chance)
            for address in strings(gathered.width):
                told = {tuple(sorted(name for name in gathered.names() if address.startswith(gathered[name].stretch)
                                     and stands_by_words(gathered, name, withdrawn)))
                        for withdrawn in all_withdrawn(gathered)}
                self.assertEqual(patterns(gathered, address), sorted(told))

    def test_with_all_hole_rows_no_address_rings(self):
        chance = random.Random(103)
        for _ in range(100):
            gathered = random_gathered(chance)
            closed = with_holes(gathered, gathered.gatherers())
            self.assertEqual([is_safe(closed), ringing_number(closed), ringing_by_words(closed)], [True, 0, []])

    def test_a_hole_row_more_never_makes_a_ring(self):
        chance = random.Random(104)
        for _ in range(60):
            gathered = random_gathered(chance)
            before = set(ringing_by_words(gathered))
            for name in gathered.gatherers():
                self.assertLessEqual(set(ringing_by_words(gathered.with_hole(name))), before)

    def test_each_round_paper_of_small_gathered_nets(self):
        right = 0
        for gathered in ringing_nets(105, 25):
            rings = [list(ring) for many in (1, 2, 3) for ring in product(gathered.hops(), repeat=many)]
            for withdrawn, address in product(all_withdrawn(gathered), strings(gathered.width)):
                goals = {}
                for hop in gathered.hops():
                    item = sent_by_words(gathered, hop, address, withdrawn)
                    goals[hop] = None if item is None or item.keeper == hop else item.way()[hop]
                for ring in rings:
                    told = len(set(ring)) == len(ring) and [goals[hop] for hop in ring] == ring[1:] + ring[:1]
                    self.assertIs(is_round_paper(gathered, (address, withdrawn, ring)), told)
                    right += told
        self.assertGreater(right, 100)

    def test_safe_ranks_changed_in_one_place(self):
        chance = random.Random(106)
        for _ in range(60):
            gathered = random_gathered(chance, 3, 3, 3)
            told = safe_ranks(gathered)
            if told is None:
                continue
            addresses = {stretch: address for stretch, many, address in gathered.cells() if many}
            for stretch in told:
                for pattern, hop, other in product(told[stretch], gathered.hops(), (0, 1, 2, 10 ** 30)):
                    changed = copy.deepcopy(told)
                    changed[stretch][pattern][hop] = other
                    self.assertIs(are_safe_ranks(gathered, changed),
                                  self.fall(gathered, addresses[stretch], pattern, changed[stretch][pattern]))

    def fall(self, gathered, address, pattern, ranked):
        """Whether the ranks of hops fall wherever a hop sends the address on, when the pattern is this one."""
        for withdrawn in all_withdrawn(gathered):
            names = tuple(name for name in gathered.standing(withdrawn) if address.startswith(gathered[name].stretch))
            if names == pattern:
                for hop in gathered.hops():
                    item = sent_by_words(gathered, hop, address, withdrawn)
                    if item is not None and item.keeper != hop and ranked[hop] <= ranked[item.way()[hop]]:
                        return False
        return True


class HoleRows(Case):
    def test_falls(self):
        chance = random.Random(111)
        in_rings, elsewhere = 0, 0
        for _ in range(200):
            gathered = random_gathered(chance)
            for withdrawn, address in product(all_withdrawn(gathered), strings(gathered.width)):
                rings = rings_by_words(gathered, address, withdrawn)
                for hop in gathered.hops():
                    told = []
                    if any(hop in ring for ring in rings):
                        sent = sent_by_words(gathered, hop, address, withdrawn)
                        told = [name for name in gathered.gatherers() if type(gathered[name]) is Gatherer
                                and gathered[name].keeper == hop and address.startswith(gathered[name].stretch)
                                and stands_by_words(gathered, name, withdrawn)
                                and len(gathered[name].stretch) > len(sent.stretch)]
                        in_rings += 1
                    elsewhere += rings != set() and not told
                    self.assertEqual(falls(gathered, hop, address, withdrawn), told)
        self.assertGreater(min(in_rings, elsewhere), 100)

    def test_a_ring_is_gone_by_one_of_its_falls(self):
        rings_seen = 0
        for gathered in ringing_nets(112, 25):
            for withdrawn, address in product(all_withdrawn(gathered), strings(gathered.width)):
                for ring in rings_by_words(gathered, address, withdrawn):
                    rings_seen += 1
                    all_falls = [name for hop in ring for name in falls(gathered, hop, address, withdrawn)]
                    self.assertTrue(all_falls)
                    for name in gathered.gatherers():
                        gone = ring not in rings_by_words(gathered.with_hole(name), address, withdrawn)
                        self.assertIs(gone, name in all_falls)
        self.assertGreater(rings_seen, 100)

    def test_enough_and_least_sets(self):
        chance = random.Random(113)
        sizes = {}
        for _ in range(200):
            gathered = random_gathered(chance)
            parts = parts_of(gathered.gatherers())
            enough = [part for part in parts if not ringing_by_words(with_holes(gathered, part))]
            for part in parts:
                names = list(part)
                chance.shuffle(names)
                self.assertIs(is_enough(gathered, names), part in enough)
                self.assertIs(is_enough(gathered, part), part in enough)
            least = sorted(list(part) for part in enough if not any(set(other) < set(part) for other in enough))
            self.assertEqual(least_sets(gathered), least)
            sizes[len(least[0])] = sizes.get(len(least[0]), 0) + 1
        self.assertGreater(sizes[1], 10)

    def test_hole_rows_that_are_there_do_not_count(self):
        for gathered in (LOOSE, SAFE):
            self.assertEqual([is_enough(gathered, []), is_enough(gathered, ["g"]), least_sets(gathered)],
                             [False, True, [["g"]]])
        self.assertEqual(least_sets(with_holes(BOTH, ["d", "e"])), least_sets(BOTH))

    def test_by_hand(self):
        self.assertEqual([falls(LOOSE, "k", "000", ["p"]), falls(LOOSE, "h", "000", ["p"]), falls(LOOSE, "k", "000")],
                         [["g"], [], []])
        self.assertEqual([falls(LOOSE, "m", "000", ["p"]), falls(SAFE, "k", "000", ["p"])], [[], []])
        # Not in the ring itself, but led into it.
        led = LOOSE + Leaf("s", "", "k", {"w": "h", "h": "k"})
        self.assertEqual([led.end("w", "000", ["p"]), falls(led, "w", "000", ["p"])], ["ring", []])

    def test_two_gatherers(self):
        self.assertEqual([BOTH.way("y", "000", ["p"]), BOTH.end("y", "000", ["p"])], [["y", "x"], "ring"])
        self.assertEqual([falls(BOTH, "x", "000", ["p"]), falls(BOTH, "y", "000", ["p"])], [["d"], []])
        self.assertEqual(least_sets(BOTH), [["d"]])
        self.assertEqual([is_enough(BOTH, ["e"]), is_enough(BOTH, ("e", "d"))], [False, True])

    def test_several_least_sets(self):
        # y sees d alone, so all rings are within 00, and a hole row at x of either gatherer ends them.
        gathered = Gathered(3, [Leaf("p", "000", "x"), Leaf("q", "001", "x"), Gatherer("e", "00", "x", ["p", "q"], {"y": "x"}),
                                Gatherer("d", "0", "x", ["e"]), Leaf("r", "", "z", {"x": "y", "y": "z"})])
        self.assertEqual([falls(gathered, "x", "000", ["p"]), ringing_number(gathered)], [["d", "e"], 2])
        self.assertEqual(least_sets(gathered), [["d"], ["e"]])
        self.assertEqual([is_enough(gathered, part) for part in parts_of(["d", "e"])], [False, True, True, True])
        # If y sees d, too, that one is needed, and enough.
        more = gathered + Leaf("s", "01", "x")
        more = Gathered(3, [*[more[name] for name in more.names() if name != "d"],
                            Gatherer("d", "0", "x", ["s", "e"], {"y": "x"})])
        self.assertEqual([least_sets(more), ringing_number(more)], [[["d"]], 4])

    def test_none_at_all(self):
        gathered = Gathered(2, [Leaf("p", "00", "x"), Gatherer("g", "0", "x", ["p"], {"y": "x"})])
        for told in (gathered, gathered.with_hole("g")):
            self.assertEqual([is_safe(told), least_sets(told), is_enough(told, ()), is_enough(told, ["g"])],
                             [True, [[]], True, True])

    def test_sets_that_share_nothing(self):
        items = []
        for name, member, other, start in (("c", "p", "q", "0"), ("ca", "r", "s", "1")):
            items.extend([Leaf(member, start + "00", "x"), Leaf(other, start + "01", "x"),
                          Gatherer(name, start + "0", "x", [member, other], {"y": "x"})])
        gathered = Gathered(3, [*items, Leaf("t", "", "z", {"x": "y", "y": "z"})])
        self.assertEqual(least_sets(gathered), [["c", "ca"]])
        self.assertEqual([ringing_number(gathered), ringing_number(gathered.with_hole("c"))], [4, 2])
        self.assertEqual([is_enough(gathered, ["c"]), is_enough(gathered, ["ca", "c"])], [False, True])


class Known(Case):
    def test_loose_and_safe(self):
        self.assertEqual([is_safe(LOOSE), ringing_number(LOOSE), safe_ranks(LOOSE)], [False, 2, None])
        self.assertTrue(is_round_paper(LOOSE, round_paper(LOOSE)))
        self.assertEqual([is_safe(SAFE), ringing_number(SAFE), round_paper(SAFE)], [True, 0, None])
        self.assertTrue(are_safe_ranks(SAFE, safe_ranks(SAFE)))
        self.assertEqual(safe_ranks(SMALL), SMALL_RANKS)

    def test_patterns_by_members_elsewhere(self):
        self.assertEqual(patterns(LOOSE, "000"), [(), ("g",), ("g", "p"), ("g", "p", "q"), ("g", "q"), ("q",)])
        self.assertEqual([patterns(LOOSE, "011"), patterns(address="111", gathered=LOOSE)], [[(), ("q",)], [()]])

    def test_patterns_are_sorted_as_tuples(self):
        names = ["a", "aa", "ab", "b"]
        gathered = Gathered(3, [Leaf(name, "000"[:at], "x") for at, name in enumerate(names)])
        self.assertEqual(patterns(gathered, "000"), sorted(parts_of(names)))
        self.assertEqual(list(safe_ranks(gathered)["000"]), sorted(parts_of(names)))

    def test_great_widths(self):
        for width in (64, 99, 100):
            low = "0" * width
            gathered = Gathered(width, [Leaf("p", low, "k"), Leaf("q", "", "h", {"k": "h"}),
                                        Gatherer("g", "0", "k", ["p"], {"h": "k"})])
            self.assertEqual([is_safe(gathered), ringing_number(gathered)], [False, 2 ** (width - 1) - 1])
            self.assertEqual([least_sets(gathered), patterns(gathered, low)],
                             [[["g"]], [(), ("g", "p"), ("g", "p", "q"), ("q",)]])
            self.assertEqual(falls(gathered, "k", "0" * (width - 1) + "1"), ["g"])
            self.assertEqual(falls(gathered, "k", low), [])
            paper = ("0" * (width - 1) + "1", [], ["h", "k"])
            self.assertTrue(is_round_paper(gathered, paper))
            self.assertFalse(is_round_paper(gathered, (low, [], ["h", "k"])))
            self.assertTrue(are_safe_ranks(gathered.with_hole("g"), safe_ranks(gathered.with_hole("g"))))

    def test_eleven_items_and_six_hops(self):
        leaves = [Leaf("l" + letter, bits, "a", {hop: "a" for hop in HOPS[1:]})
                  for letter, bits in zip("abcdef", strings(3))]
        gatherers = [Gatherer("ga", "00", "a", ["la", "lb"], {"b": "a"}), Gatherer("gb", "01", "a", ["lc"], {"z": "a"}),
                     Gatherer("gc", "0", "a", ["ga", "gb"]), Closed("gd", "10", "a", ["le"]), Gatherer("ge", "", "a", ["gc"])]
        gathered = Gathered(3, [*leaves, *gatherers])
        self.assertEqual([is_safe(gathered), len(safe_ranks(gathered)), least_sets(gathered)], [True, 7, [[]]])
        self.assertTrue(are_safe_ranks(gathered, safe_ranks(gathered)))
        # 000 has la or not, lb or not, ga with one of these, gc and ge by these or lc: ge and gc stand together.
        self.assertEqual(patterns(gathered, "000"),
                         [(), ("ga", "gc", "ge"), ("ga", "gc", "ge", "la"), ("gc", "ge")])


class SafeRanksOfOtherKinds(Case):
    def test_what_is_right(self):
        for value in (SMALL_RANKS, {"0": {("p",): {"y": 9, "x": 8}, (): {"y": 3, "x": 3}}, "": {(): {"x": 1, "y": 10 ** 30}}}):
            self.assertIs(are_safe_ranks(SMALL, value), True)
        self.assertTrue(are_safe_ranks(value=safe_ranks(SAFE), gathered=SAFE))

    def test_what_is_wrong_in_one_place(self):
        inner = SMALL_RANKS["0"]
        ranked = inner[("p",)]
        for wrong in WRONG_LISTS + [[], (), inner[()], {**inner, ("q",): {"x": 0, "y": 0}}, {(): inner[()]},
                                    {**inner, "p": ranked}, {("p",): ranked}, {(): inner[()], "p": ranked},
                                    {(): inner[()], ("p", "p"): ranked}, list(inner.items()), SMALL, Table(1)]:
            self.assertIs(are_safe_ranks(SMALL, {**SMALL_RANKS, "0": wrong}), False)
        for wrong in WRONG_LISTS + [[], (), {"x": 0}, {"y": 1}, {"x": 0, "y": 1, "z": 0}, {"x": 0, "z": 1}, [0, 1],
                                    ["x", "y"], {"x": 1, "y": 1}, {"x": 1, "y": 0}, SMALL]:
            self.assertIs(are_safe_ranks(SMALL, {**SMALL_RANKS, "0": {**inner, ("p",): wrong}}), False)
        for hop, wrong in product("xy", (None, True, False, -1, "1", "", b"1", [], [1], (1,), {}, object(), SMALL)):
            value = {**SMALL_RANKS, "0": {**inner, ("p",): {**ranked, hop: wrong}}}
            self.assertIs(are_safe_ranks(SMALL, value), False)
            value = {**SMALL_RANKS, "": {(): {"x": 0, "y": 0, hop: wrong}}}
            self.assertIs(are_safe_ranks(SMALL, value), False)

    def test_bools_for_counts(self):
        for ranked in ({"x": False, "y": 1}, {"x": 0, "y": True}):
            self.assertFalse(are_safe_ranks(SMALL, {**SMALL_RANKS, "0": {**SMALL_RANKS["0"], ("p",): ranked}}))

    def test_other_cells(self):
        for value in ({"0": SMALL_RANKS["0"]}, {"": SMALL_RANKS[""]}, {}, {**SMALL_RANKS, "1": SMALL_RANKS[""]},
                      {**SMALL_RANKS, None: SMALL_RANKS[""]}, {"1": SMALL_RANKS[""], "0": SMALL_RANKS["0"]}):
            self.assertIs(are_safe_ranks(SMALL, value), False)

    def test_empty_cells_have_none(self):
        gathered = Gathered(1, [Leaf("p", "0", "x"), Leaf("q", "1", "x")])
        told = {"0": {(): {"x": 0}, ("p",): {"x": 0}}, "1": {(): {"x": 0}, ("q",): {"x": 0}}}
        self.assertEqual(safe_ranks(gathered), told)
        self.assertFalse(are_safe_ranks(gathered, {**told, "": {(): {"x": 0}}}))

    def test_other_kinds(self):
        for value in WRONG_LISTS + WRONG_ELEMENTS + [SMALL, Table(1), list(SMALL_RANKS.items()), safe_ranks(SAFE)]:
            self.assertIs(are_safe_ranks(SMALL, value), False)
            self.assertIs(are_safe_ranks(LOOSE, value), False)


class RoundPapersOfOtherKinds(Case):
    PAPER = ("000", ["p"], ["h", "k"])

    def test_what_is_right(self):
        for value in (self.PAPER, ("000", ("p",), ("k", "h")), ("001", ["r"], ["k", "h"])):
            self.assertIs(is_round_paper(LOOSE, value), True)
        self.assertTrue(is_round_paper(value=self.PAPER, gathered=LOOSE))
        self.assertFalse(is_round_paper(SAFE, self.PAPER))

    def test_what_is_wrong_in_one_place(self):
        for address in WRONG_ELEMENTS + ["", "00", "0000", "001", "010", "100", LOOSE]:
            self.assertIs(is_round_paper(LOOSE, (address, ["p"], ["h", "k"])), False)
        for withdrawn in WRONG_LISTS + [[], (), ["r"], ["q"], ["p", "p"], ["p", "q"], ["p", "r"], ["g"], ["h"], [None],
                                        ["p", None], "p", {"p": 1}, [["p"]], LOOSE]:
            self.assertIs(is_round_paper(LOOSE, ("000", withdrawn, ["h", "k"])), False)
        for ring in WRONG_LISTS + [[], (), ["h"], ["k"], ["h", "h"], ["h", "k", "h", "k"], ["h", "m"], ["h", "k", "m"],
                                   ["h", None], ["h", "p"], "hk", {"h": 1, "k": 1}, [["h"], "k"], [True], LOOSE]:
            self.assertIs(is_round_paper(LOOSE, ("000", ["p"], ring)), False)

    def test_withdrawn_leaves_are_sorted(self):
        gathered = LOOSE + Leaf("a", "1", "k")
        self.assertTrue(is_round_paper(gathered, ("000", ["a", "p"], ["h", "k"])))
        self.assertFalse(is_round_paper(gathered, ("000", ["p", "a"], ["h", "k"])))
        self.assertFalse(is_round_paper(gathered, ("000", ("p", "a"), ["h", "k"])))

    def test_other_kinds(self):
        for value in WRONG_LISTS + [list(self.PAPER), self.PAPER[:2], (*self.PAPER, []), (), [], "0ph", (self.PAPER,),
                                    {"000": 1, "p": 2, "h": 3}, (None, None, None), LOOSE]:
            self.assertIs(is_round_paper(LOOSE, value), False)
            self.assertIs(is_round_paper(SAFE, value), False)


class WrongValues(Case):
    def test_addresses(self):
        self.check_address(lambda address: patterns(GATHERED_FIVE, address))

    def test_falls(self):
        self.check_hop(lambda hop: falls(GATHERED_FIVE, hop, "00000"))
        self.check_address(lambda address: falls(GATHERED_FIVE, "x", address))
        self.check_withdrawn(lambda withdrawn: falls(GATHERED_FIVE, "x", "00000", withdrawn))
        self.check(UnknownHop, {"value": "g"}, falls, GATHERED_FIVE, "g", "2", None)
        self.check(InvalidAddress, {"value": "2"}, falls, GATHERED_FIVE, "x", "2", None)
        self.check(InvalidWithdrawn, {"position": 0}, falls, withdrawn=["g"], address="00000", hop="x",
                   gathered=GATHERED_FIVE)

    def test_sets_of_gatherers(self):
        for value in WRONG_LISTS + ["g", {"d": 1}, BOTH]:
            self.check(InvalidMembers, {"position": None}, is_enough, BOTH, value)
        for wrong in WRONG_ELEMENTS + ["", "p", "x", "de", "home", ["d"], BOTH["d"]]:
            self.check(InvalidMembers, {"position": 0}, is_enough, BOTH, [wrong])
            self.check(InvalidMembers, {"position": 1}, is_enough, BOTH, ("e", wrong, "e"))
            self.check(InvalidMembers, {"position": 2}, is_enough, BOTH, ["e", "d", wrong])
        self.check(InvalidMembers, {"position": 1}, is_enough, BOTH, ["d", "d"])
        self.check(InvalidMembers, {"position": 2}, is_enough, BOTH, ["d", "e", "d"])
        self.assertTrue(is_enough(names=("d",), gathered=BOTH))

    def test_results_are_new(self):
        self.check_new(round_paper, LOOSE)
        self.check_new(safe_ranks, SAFE)
        self.check_new(least_sets, BOTH)
        self.check_new(patterns, LOOSE, "000")
        self.check_new(falls, LOOSE, "k", "000", ["p"])
        self.check_new(is_enough, BOTH, ["d"])
        self.check_new(are_safe_ranks, SMALL, SMALL_RANKS)
        self.check_new(is_round_paper, LOOSE, RoundPapersOfOtherKinds.PAPER)
