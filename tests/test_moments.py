"""Ranks, ring papers and ends of late nets, at all moments."""

import copy
import random
from itertools import product

from coverways.errors import InvalidAddress, UnknownHop
from coverways.late import Late
from coverways.moments import (are_ranks, ends, is_ring_paper, is_safe_late, longest, ranks, ring_paper,
                               sure_number)
from coverways.nets import Net
from coverways.tables import Table
from tests.support import HOPS, WRONG_ELEMENTS, WRONG_LISTS, Case, random_late, strings

# From x to y by a loose row, and back by a firm one.
RINGING = Late(Net({"x": Table(2, {"": "home", "0": "y"}), "y": Table(2, {"": "x", "00": "home"})}), {"y": [""]})
SAFE = Late(Net({"x": Table(2, {"": "home", "0": "y"}), "y": Table(2, {"": "home", "00": "z"}), "z": Table(2)}),
            {"x": [""], "y": [""]})
FIVE = Late(Net({"x": Table(5, {"": "y"}), "y": Table(5), "z": Table(5, {"0": "z"})}))
SAFE_RANKS = {"": {"x": 0, "y": 0, "z": 0}, "0": {"x": 1, "y": 0, "z": 0}, "00": {"x": 2, "y": 1, "z": 0}}


def moments_of(late):
    """The nets of all moments."""
    loose = late.loose()
    choices = product((False, True), repeat=len(loose))
    return [late.at([row for row, gone in zip(loose, choice) if gone]) for choice in choices]


def small_lates(seed, many, most_width=2):
    """Late nets with few moments."""
    chance = random.Random(seed)
    found = 0
    while found < many:
        late = random_late(chance, most_width, 3, 4)
        if len(late.loose()) <= 7:
            found = found + 1
            yield late


class AllMoments(Case):
    def test_small_late_nets(self):
        found = {True: 0, False: 0}
        for late in small_lates(61, 300):
            nets = moments_of(late)
            places = list(product(late.net.hops(), strings(late.net.width)))
            told = {place: {net.end(*place) for net in nets} for place in places}
            for place in places:
                self.assertEqual(ends(late, *place), sorted(told[place]))
            safe = not any("ring" in words for words in told.values())
            found[safe] += 1
            self.assertIs(is_safe_late(late), safe)
            most = max(len(net.way(*place)) for net in nets for place in places)
            self.assertEqual(longest(late), most if safe else None)
            for hop in late.net.hops():
                sure = [address for address in strings(late.net.width) if told[hop, address] == {"home"}]
                self.assertEqual(sure_number(late, hop), len(sure))
            self.check_papers(late, safe, nets)
        self.assertGreater(min(found.values()), 50)

    def check_papers(self, late, safe, nets):
        """That there are just either ranks or a ring paper, and what they say is so."""
        if not safe:
            self.assertIsNone(ranks(late))
            address, ring, gone = ring_paper(late)
            self.assertIsInstance(ring, list)
            self.assertIsInstance(gone, list)
            self.assertTrue(is_ring_paper(late, (address, ring, gone)))
            net = late.at(gone)
            self.assertEqual([net(hop, address) for hop in ring], ring[1:] + ring[:1])
            return
        self.assertIsNone(ring_paper(late))
        told = ranks(late)
        self.assertTrue(are_ranks(late, told))
        self.assertEqual(list(told), sorted(told))
        self.assertEqual(list(told), [stretch for stretch, many, _ in late.net.cells() if many])
        for stretch, many, address in late.net.cells():
            if many:
                self.assertEqual(list(told[stretch]), late.net.hops())
                for net, hop in product(nets, late.net.hops()):
                    self.assertLessEqual(len(net.way(hop, address)) - 1, told[stretch][hop])

    def test_each_ring_paper_of_small_late_nets(self):
        for late in small_lates(62, 40, 1):
            if len(late.loose()) > 4:
                continue
            rings = [list(ring) for many in (1, 2, 3) for ring in product(late.net.hops(), repeat=many)]
            for choice in product((False, True), repeat=len(late.loose())):
                gone = [row for row, chosen in zip(late.loose(), choice) if chosen]
                net = late.at(gone)
                for ring, address in product(rings, strings(late.net.width)):
                    told = (len(set(ring)) == len(ring)
                            and [net(hop, address) for hop in ring] == ring[1:] + ring[:1])
                    self.assertIs(is_ring_paper(late, (address, ring, gone)), told)

    def test_ranks_changed_in_one_place(self):
        for late in small_lates(63, 150):
            told = ranks(late)
            if told is None:
                continue
            addresses = {stretch: address for stretch, many, address in late.net.cells() if many}
            for stretch, address in addresses.items():
                for hop, other in product(late.net.hops(), (0, 1, 2, 3, 10 ** 30)):
                    changed = copy.deepcopy(told)
                    changed[stretch][hop] = other
                    fits = all(changed[stretch][place] > changed[stretch][goal] for place in late.net.hops()
                               for goal in late.heads(place, address) if goal in late.net)
                    self.assertIs(are_ranks(late, changed), fits)


class Known(Case):
    def test_safe(self):
        self.assertEqual([is_safe_late(SAFE), longest(SAFE), ring_paper(SAFE)], [True, 3, None])
        self.assertTrue(are_ranks(SAFE, ranks(SAFE)))
        self.assertEqual([ends(SAFE, "x", "00"), ends(SAFE, "x", "01"), ends(SAFE, "z", "11")],
                         [["hole", "home"], ["home"], ["hole"]])
        self.assertEqual([sure_number(SAFE, "x"), sure_number(SAFE, "y"), sure_number(SAFE, "z")], [3, 3, 0])

    def test_ringing(self):
        self.assertEqual([is_safe_late(RINGING), longest(RINGING), ranks(RINGING)], [False, None, None])
        self.assertTrue(is_ring_paper(RINGING, ring_paper(RINGING)))
        self.assertEqual([ends(RINGING, "x", "00"), ends(RINGING, "y", "01"), ends(RINGING, "x", "10")],
                         [["hole", "home", "ring"], ["hole", "home", "ring"], ["hole", "home"]])

    def test_a_hop_that_leads_to_itself(self):
        late = Late(Net({"x": Table(1, {"0": "x", "": "home"})}), {"x": [""]})
        self.assertEqual([ends(late, "x", "0"), ends(late, "x", "1"), sure_number(late, "x")],
                         [["home", "ring"], ["home"], 1])
        self.assertEqual(ring_paper(late), ("0", ["x"], []))
        self.assertTrue(is_ring_paper(late, ("0", ["x"], [])))
        self.assertFalse(is_ring_paper(late, ("0", ["x"], [("x", "0")])))
        self.assertFalse(is_ring_paper(late, ("1", ["x"], [])))

    def test_a_ring_that_is_not_come_to(self):
        net = Net({"x": Table(1, {"": "home"}), "y": Table(1, {"": "z"}), "z": Table(1, {"": "y"})})
        late = Late(net, {"x": [""], "y": [""], "z": [""]})
        self.assertEqual([ends(late, "x", "0"), ends(late, "y", "0"), sure_number(late, "x"), longest(late)],
                         [["home"], ["ring"], 2, None])

    def test_all_firm_is_as_the_net(self):
        late = SAFE
        for hop, stretch in SAFE.loose():
            late = late.made_firm(hop, stretch)
        for hop, address in product(late.net.hops(), strings(2)):
            self.assertEqual(ends(late, hop, address), [late.net.end(hop, address)])

    def test_without_rows(self):
        late = Late(Net({hop: Table(3) for hop in HOPS}))
        self.assertEqual([is_safe_late(late), longest(late), sure_number(late, "a"), ends(late, "z", "000")],
                         [True, 1, 0, ["hole"]])
        self.assertEqual(ranks(late), {"": {hop: 0 for hop in HOPS}})

    def test_great_widths(self):
        for width in (64, 99, 100):
            low = "0" * width
            tables = {"x": Table(width, {"": "home", low: "y"}), "y": Table(width, {"": "home", "1": "x"})}
            late = Late(Net(tables), {"x": [""], "y": [""]})
            self.assertEqual([is_safe_late(late), longest(late)], [True, 2])
            self.assertEqual([sure_number(late, "x"), sure_number(late.made_loose("x", ""), "x")], [2 ** width, 0])
            self.assertEqual(sure_number(late.made_loose("y", ""), "x"), 2 ** width - 1)
            tables["y"] = tables["y"] + (low[1:], "x")
            late = Late(Net(tables), {"x": [""], "y": [""]})
            self.assertEqual([is_safe_late(late), ring_paper(late)[0], len(ring_paper(late)[2])], [False, low, 0])
            self.assertEqual([sure_number(late, "x"), sure_number(late, "y")], [2 ** width - 1, 2 ** width - 1])
            self.assertEqual(ends(late, "x", low), ["home", "ring"])

    def test_seventy_rows(self):
        rows = {bits: "home" for bits in strings(6)[:35]}
        late = Late(Net({"x": Table(100, rows), "y": Table(100, {bits: "x" for bits in rows})}))
        self.assertEqual([is_safe_late(late), longest(late), len(ranks(late))], [True, 2, 36])


class RanksOfOtherKinds(Case):
    def test_what_is_right(self):
        for value in (SAFE_RANKS, {**SAFE_RANKS, "": {"x": 10 ** 30, "y": 5, "z": 7}},
                      {"00": SAFE_RANKS["00"], "0": {"z": 1, "y": 2, "x": 3}, "": SAFE_RANKS[""]}):
            self.assertIs(are_ranks(SAFE, value), True)
        self.assertTrue(are_ranks(value=SAFE_RANKS, late=SAFE))
        self.assertFalse(are_ranks(RINGING, {"": {"x": 0, "y": 1}, "0": {"x": 1, "y": 0}, "00": {"x": 1, "y": 2}}))

    def test_what_is_wrong_in_one_place(self):
        for stretch in SAFE_RANKS:
            rest = {key: SAFE_RANKS[key] for key in SAFE_RANKS if key != stretch}
            for value in (rest, {**rest, "01": SAFE_RANKS[stretch]}, {**rest, None: SAFE_RANKS[stretch]}):
                self.assertIs(are_ranks(SAFE, value), False)
            for wrong in WRONG_LISTS + [[], (), [0, 0, 0], ["x", "y", "z"], Table(1), SAFE]:
                self.assertIs(are_ranks(SAFE, {**SAFE_RANKS, stretch: wrong}), False)
            for hop in ("x", "y", "z"):
                part = {key: rank for key, rank in SAFE_RANKS[stretch].items() if key != hop}
                self.assertFalse(are_ranks(SAFE, {**SAFE_RANKS, stretch: part}))
                self.assertFalse(are_ranks(SAFE, {**SAFE_RANKS, stretch: {**part, "q": 7}}))
                for wrong in (None, True, False, -1, "1", "", b"1", [], [1], (1,), {}, object(), Table(1)):
                    self.assertFalse(are_ranks(SAFE, {**SAFE_RANKS, stretch: {**part, hop: wrong}}))
        for value in ({**SAFE_RANKS, "01": SAFE_RANKS["0"]}, {**SAFE_RANKS, None: SAFE_RANKS["0"]},
                      {**SAFE_RANKS, "0": {**SAFE_RANKS["0"], "q": 0}}, {**SAFE_RANKS, "0": {"x": 0, "y": 0, "z": 0}},
                      {**SAFE_RANKS, "00": {"x": 2, "y": 2, "z": 0}}, {**SAFE_RANKS, "00": {"x": 2, "y": 1, "z": 1}}):
            self.assertIs(are_ranks(SAFE, value), False)

    def test_bools_for_counts(self):
        self.assertFalse(are_ranks(SAFE, {**SAFE_RANKS, "0": {"x": True, "y": 0, "z": 0}}))
        self.assertFalse(are_ranks(SAFE, {**SAFE_RANKS, "0": {"x": 1, "y": False, "z": 0}}))
        self.assertFalse(are_ranks(SAFE, {**SAFE_RANKS, "0": {"x": 1, "y": 0, "z": False}}))

    def test_empty_cells_have_none(self):
        late = Late(Net({"x": Table(1, {"": "home", "0": "home", "1": "hole"})}))
        self.assertEqual(list(ranks(late)), ["0", "1"])
        self.assertTrue(are_ranks(late, {"0": {"x": 0}, "1": {"x": 4}}))
        self.assertFalse(are_ranks(late, {"": {"x": 0}, "0": {"x": 0}, "1": {"x": 4}}))

    def test_other_kinds(self):
        for value in WRONG_LISTS + WRONG_ELEMENTS + [SAFE, SAFE.net, SAFE.net["x"], {}, list(SAFE_RANKS.items())]:
            self.assertIs(are_ranks(SAFE, value), False)
            self.assertIs(are_ranks(RINGING, value), False)


class RingPapersOfOtherKinds(Case):
    PAPER = ("01", ["x", "y"], [])
    OTHER = ("00", ["y", "x"], [("y", "00")])

    def test_what_is_right(self):
        for value in (self.PAPER, self.OTHER, ("01", ("y", "x"), ()), ("00", ["x", "y"], (("y", "00"),)),
                      ("01", ["x", "y"], [("y", "00")])):
            self.assertIs(is_ring_paper(RINGING, value), True)
        self.assertTrue(is_ring_paper(value=self.PAPER, late=RINGING))

    def test_what_is_wrong_in_one_place(self):
        for address in WRONG_ELEMENTS + ["", "0", "000", "10", "11", "00", RINGING]:
            self.assertIs(is_ring_paper(RINGING, (address, *self.PAPER[1:])), False)
        for ring in WRONG_LISTS + [[], (), ["x"], ["y"], ["x", "x"], ["x", "y", "x", "y"], ["x", "q"], ["x", None],
                                   "xy", ["x", "y", "z"], ["home"], [["x"], "y"], {"x": 1, "y": 1}, [RINGING], [True]]:
            self.assertIs(is_ring_paper(RINGING, ("01", ring, [])), False)
        for gone in WRONG_LISTS + [[("x", "0")], [("y", "")], [("y", "00"), ("y", "00")], [["y", "00"]], [("y",)],
                                   [("y", "00", "")], ["y"], [("x", "1")], [("q", "0")], [None], [("y", "00"), None]]:
            self.assertIs(is_ring_paper(RINGING, ("01", ["x", "y"], gone)), False)
        self.assertFalse(is_ring_paper(RINGING, ("00", ["x", "y"], [])))
        self.assertFalse(is_ring_paper(RINGING, ("00", ["x", "y"], [("y", "00"), ("x", "0")])))

    def test_other_kinds(self):
        for value in WRONG_LISTS + [list(self.PAPER), self.PAPER[:2], (*self.PAPER, []), (), [], "abc", RINGING, "01xy",
                                    {"01": 1, "x": 2, "y": 3}, (self.PAPER,), (None, None, None)]:
            self.assertIs(is_ring_paper(RINGING, value), False)
            self.assertIs(is_ring_paper(SAFE, value), False)
        self.assertFalse(is_ring_paper(SAFE, self.PAPER))


class WrongValues(Case):
    def test_ends(self):
        self.check_hop(lambda hop: ends(FIVE, hop, "00000"))
        self.check_address(lambda address: ends(FIVE, "x", address))
        self.check(UnknownHop, {"value": "q"}, ends, FIVE, "q", "2")
        self.check(InvalidAddress, {"value": None}, ends, FIVE, "y", None)
        self.assertEqual(ends(address="00000", hop="z", late=FIVE), ["hole", "ring"])

    def test_sure_number(self):
        self.check_hop(lambda hop: sure_number(FIVE, hop))
        self.assertEqual(sure_number(hop="x", late=FIVE), 0)

    def test_results_are_new(self):
        self.check_new(ranks, SAFE)
        self.check_new(ring_paper, RINGING)
        self.check_new(ends, RINGING, "x", "00")
        self.check_new(are_ranks, SAFE, SAFE_RANKS)
        self.check_new(is_ring_paper, RINGING, RingPapersOfOtherKinds.OTHER)
