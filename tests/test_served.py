"""Gathered nets as tables: served nets, late nets, lying and straying addresses."""

import random
from itertools import product

from coverways.errors import InvalidWithdrawn, UnknownHop
from coverways.gathered import Gathered
from coverways.items import Closed, Gatherer, Leaf
from coverways.late import Late
from coverways.moments import is_ring_paper, is_safe_late, ring_paper
from coverways.nets import Net
from coverways.served import first_lying, first_straying, late_of, lying_number, served, told_to
from coverways.tables import Table
from coverways.withdrawals import is_safe
from tests.support import (GATHERED_FIVE, HOPS, Case, all_withdrawn, random_gathered, sent_by_words, stands_by_words,
                           strings, way_of_gathered_by_words)

LOOSE = Gathered(3, [Leaf("p", "000", "k"), Leaf("r", "001", "k"), Leaf("q", "0", "m", {"k": "h", "h": "m"}),
                     Gatherer("g", "00", "k", ["r", "p"], {"h": "k"})])
SAFE = LOOSE.with_hole("g")

# k hears late that p is withdrawn, and sends back what h sends it.
TWO = Gathered(2, [Leaf("p", "0", "k", {"h": "k"}), Leaf("q", "", "h", {"k": "h"})])


def rows_by_words(gathered, hop, withdrawn):
    rows = {}
    for name in gathered.names():
        item = gathered[name]
        if not stands_by_words(gathered, name, withdrawn) or hop not in item.sees():
            continue
        if hop != item.keeper:
            rows[item.stretch] = item.way()[hop]
        elif type(item) is Leaf:
            rows[item.stretch] = "home"
        elif type(item) is Closed:
            rows[item.stretch] = "hole"
    return rows


class Serving(Case):
    def test_word_for_word(self):
        chance = random.Random(121)
        for _ in range(120):
            gathered = random_gathered(chance)
            for withdrawn in all_withdrawn(gathered):
                net = served(gathered, withdrawn)
                self.assertEqual([net.width, net.hops()], [gathered.width, gathered.hops()])
                for hop in gathered.hops():
                    self.assertEqual(net[hop].rows(), rows_by_words(gathered, hop, withdrawn))
                    self.assertEqual(told_to(gathered, hop, withdrawn), net[hop])
            self.assertEqual(served(gathered), served(gathered, []))

    def test_ways_and_ends_are_the_same(self):
        chance = random.Random(122)
        for _ in range(120):
            gathered = random_gathered(chance)
            for withdrawn in all_withdrawn(gathered):
                net = served(gathered, withdrawn)
                for hop, address in product(gathered.hops(), strings(gathered.width)):
                    self.assertEqual(net.way(hop, address), gathered.way(hop, address, withdrawn))
                    self.assertEqual(net.end(hop, address), gathered.end(hop, address, withdrawn))

    def test_by_hand(self):
        tables = {"h": Table(3, {"0": "m", "00": "k"}), "m": Table(3, {"0": "home"}),
                  "k": Table(3, {"0": "h", "000": "home", "001": "home"})}
        self.assertEqual(served(LOOSE), Net(tables))
        self.assertEqual(served(SAFE), Net({**tables, "k": tables["k"] + ("00", "hole")}))
        self.assertEqual(served(SAFE, ["p", "r"]), Net({"h": Table(3, {"0": "m"}), "m": tables["m"],
                                                        "k": Table(3, {"0": "h"})}))
        self.assertEqual(served(withdrawn=("p", "q", "r"), gathered=SAFE), Net({hop: Table(3) for hop in "hkm"}))
        self.assertEqual(told_to(SAFE, "k"), tables["k"] + ("00", "hole"))
        self.assertEqual(told_to(withdrawn=["q"], hop="m", gathered=SAFE), Table(3))

    def test_eleven_items_at_six_hops(self):
        way = {hop: "a" for hop in HOPS[1:]}
        leaves = [Leaf("l" + letter, bits, "a", way) for letter, bits in zip("abcdef", strings(3))]
        gatherers = [Closed("ga", "00", "a", ["la"], way), Closed("gb", "01", "a", ["lc"], way),
                     Closed("gc", "0", "a", ["ga"], way), Closed("gd", "10", "a", ["le"], way),
                     Closed("ge", "", "a", ["gc"], way)]
        gathered = Gathered(3, leaves + gatherers)
        self.assertEqual([served(gathered).many_rows, len(late_of(gathered).loose())], [66, 66])
        self.assertEqual(served(gathered, ["la"]).many_rows, 42)

    def test_wrong_values(self):
        self.check_withdrawn(lambda withdrawn: served(GATHERED_FIVE, withdrawn))
        self.check_withdrawn(lambda withdrawn: told_to(GATHERED_FIVE, "x", withdrawn))
        self.check_hop(lambda hop: told_to(GATHERED_FIVE, hop))
        self.check(UnknownHop, {"value": "p"}, told_to, GATHERED_FIVE, "p", None)
        self.check(InvalidWithdrawn, {"position": 1}, told_to, GATHERED_FIVE, "x", ["p", "x"])

    def test_results_are_new(self):
        for action in (served, lying_number, first_lying, first_straying):
            self.check_new(action, SAFE, ["p"])
        self.check_new(told_to, SAFE, "k", ["p"])
        self.check_new(late_of, SAFE)


class LateNews(Case):
    def test_all_rows_are_loose(self):
        chance = random.Random(123)
        for _ in range(100):
            gathered = random_gathered(chance)
            late = late_of(gathered)
            self.assertEqual(late, Late(served(gathered)))
            self.assertEqual(late.net.many_rows, len(late.loose()))

    def test_each_served_net_is_that_of_a_moment(self):
        chance = random.Random(124)
        for _ in range(80):
            gathered = random_gathered(chance)
            late = late_of(gathered)
            for withdrawn in all_withdrawn(gathered):
                net = served(gathered, withdrawn)
                gone = [(hop, stretch) for hop, stretch in late.loose() if stretch not in net[hop]]
                self.assertEqual(late.at(gone), net)
            if is_safe_late(late):
                self.assertTrue(is_safe(gathered))

    def test_late_news_ring_though_the_gathered_net_is_safe(self):
        self.assertEqual([is_safe(TWO), is_safe_late(late_of(TWO))], [True, False])
        address, ring, gone = ring_paper(late_of(TWO))
        self.assertEqual([sorted(ring), gone, address[0]], [["h", "k"], [("k", "0")], "0"])
        self.assertTrue(is_ring_paper(late_of(TWO), ("01", ["h", "k"], [("k", "0")])))
        self.assertEqual([is_safe(SAFE), is_safe_late(late_of(SAFE))], [True, False])
        self.assertTrue(is_ring_paper(late_of(SAFE), ("000", ["h", "k"], [("k", "000"), ("k", "00")])))


class Astray(Case):
    def test_word_for_word(self):
        chance = random.Random(125)
        found = {"lying": 0, "straying": 0}
        for _ in range(200):
            gathered = random_gathered(chance)
            for withdrawn in all_withdrawn(gathered):
                lying = [address for address in strings(gathered.width) if self.lies(gathered, address, withdrawn)]
                self.assertEqual(lying_number(gathered, withdrawn), len(lying))
                self.assertEqual(first_lying(gathered, withdrawn), lying[0] if lying else None)
                straying = [(address, hop) for address in strings(gathered.width) for hop in gathered.hops()
                            if self.strays(gathered, hop, address, withdrawn)]
                self.assertEqual(first_straying(gathered, withdrawn), straying[0] if straying else None)
                found["lying"] += len(lying) > 0
                found["straying"] += len(straying) > 0
            self.assertEqual([lying_number(gathered), first_lying(gathered), first_straying(gathered)],
                             [lying_number(gathered, []), first_lying(gathered, ()), first_straying(gathered, [])])
        self.assertGreater(min(found.values()), 50)

    def kinds(self, gathered, address, withdrawn):
        """The kinds of the items that hold the address and stand."""
        names = [name for name in gathered.names() if address.startswith(gathered[name].stretch)]
        return [isinstance(gathered[name], Leaf) for name in names if stands_by_words(gathered, name, withdrawn)]

    def lies(self, gathered, address, withdrawn):
        kinds = self.kinds(gathered, address, withdrawn)
        return False in kinds and True not in kinds

    def strays(self, gathered, hop, address, withdrawn):
        if True not in self.kinds(gathered, address, withdrawn):
            return False
        if sent_by_words(gathered, hop, address, withdrawn) is None:
            return False
        return way_of_gathered_by_words(gathered, hop, address, withdrawn)[1] != "home"

    def test_by_hand(self):
        self.assertEqual([lying_number(SAFE), first_lying(SAFE), first_straying(SAFE)], [0, None, None])
        self.assertEqual([lying_number(SAFE, ["q"]), lying_number(SAFE, ["q", "r"]), first_lying(SAFE, ["q", "r"])],
                         [0, 1, "001"])
        self.assertEqual([lying_number(SAFE, ["p", "q"]), first_lying(withdrawn=["q", "p"], gathered=SAFE)], [1, "000"])
        self.assertEqual([lying_number(SAFE, ["p", "q", "r"]), first_lying(SAFE, ["p", "q", "r"])], [0, None])
        # q stands and holds 000, but h and k send it by g, into a hole or round.
        self.assertEqual([first_straying(SAFE, ["p"]), first_straying(LOOSE, ["p"])], [("000", "h"), ("000", "h")])
        self.assertEqual([first_straying(SAFE, ["r"]), first_straying(LOOSE, ("q", "p"))], [("001", "h"), None])

    def test_a_hop_that_sends_by_no_item_is_no_place_to_stray(self):
        gathered = Gathered(1, [Leaf("p", "0", "k"), Leaf("q", "1", "h", {"k": "h"})])
        self.assertEqual([gathered.end("h", "0"), first_straying(gathered)], ["hole", None])

    def test_great_widths(self):
        for width in (64, 99, 100):
            low = "0" * width
            gathered = Gathered(width, [Leaf("p", low, "k"), Gatherer("g", "0", "k", ["p"], {"h": "k"}),
                                        Closed("d", "", "k", ["g"]), Leaf("q", "1" + low[1:], "h")])
            self.assertEqual([lying_number(gathered), lying_number(gathered, ["q"])], [2 ** width - 2, 2 ** width - 1])
            self.assertEqual([first_lying(gathered), first_lying(gathered, ["p"])], [low[1:] + "1", None])
            self.assertEqual(first_straying(gathered), ("1" + low[1:], "k"))
            self.assertEqual(first_straying(gathered, ["q"]), None)

    def test_wrong_values(self):
        for action in (lying_number, first_lying, first_straying):
            self.check_withdrawn(lambda withdrawn: action(GATHERED_FIVE, withdrawn))
