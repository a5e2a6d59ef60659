"""Claims of all nine kinds, near ones that are none, and their papers."""

import random
from itertools import product

from coverways.claims import is_claim, is_paper, is_true, paper_of
from coverways.errors import InvalidClaim
from coverways.gathered import Gathered
from coverways.items import Gatherer, Leaf
from coverways.late import Late
from coverways.moments import is_safe_late
from coverways.nets import Net
from coverways.orders import first_order
from coverways.spare import fewest
from coverways.tables import Table
from coverways.withdrawals import is_safe
from tests.support import (WRONG_ELEMENTS, WRONG_LISTS, Case, random_free, random_gathered, random_late, random_table,
                           stretches_to, strings)
from tests.test_orders import two_chains

TABLE = Table(2, {"": "a", "01": "b", "11": "b"})
SHORT = Table(2, {"": "a", "1": "b"})
LATE = Late(Net({"x": Table(1, {"0": "y"}), "y": Table(1, {"0": "home", "": "x"})}), {"y": [""]})
CALM = LATE.made_firm("y", "0")
LOOSE = Gathered(2, [Leaf("p", "00", "k"), Leaf("q", "", "m", {"k": "m"}), Gatherer("g", "0", "k", ["p"], {"m": "k"})])
OLD = Net({"x": Table(1, {"0": "y", "1": "home"}), "y": Table(1, {"0": "home", "1": "x"})})
NEW = Net({"x": Table(1, {"0": "home", "1": "y"}), "y": Table(1, {"0": "x", "1": "home"})})
PART = Net({"x": Table(1, {"": "home"}), "y": Table(1, {"": "x"})})

LATE_RANKS = {"": {"x": 0, "y": 1}, "0": {"x": 1, "y": 0}}
RING_PAPER = ("0", ["x", "y"], [("y", "0")])
ROUND_PAPER = ("01", [], ["k", "m"])
CLOSED = LOOSE.with_hole("g")
SAFE_RANKS = {"": {(): {"k": 0, "m": 0}, ("q",): {"k": 1, "m": 0}},
              "0": {(): {"k": 0, "m": 0}, ("g",): {"k": 0, "m": 1}, ("g", "q"): {"k": 0, "m": 1}, ("q",): {"k": 1, "m": 0}},
              "00": {(): {"k": 0, "m": 0}, ("g", "p"): {"k": 0, "m": 1}, ("g", "p", "q"): {"k": 0, "m": 1},
                     ("q",): {"k": 1, "m": 0}}}

# Each kind: a claim that is true, some of its papers, a claim of the same word that is not true.
KINDS = [
    (("fewer", TABLE, (), 3), [TABLE, Table(2, {"": "b", "00": "a", "10": "a"})], ("fewer", TABLE, (), 2)),
    (("more", TABLE, ["1"], 1), [[(None, "00"), (None, "01")], ((None, "01"), (None, "00"))], ("more", TABLE, (), 3)),
    (("unlike", TABLE, SHORT, ("0",)), ["10"], ("unlike", TABLE, SHORT, ["01", "10"])),
    (("safe late", CALM), [LATE_RANKS, {"0": {"y": 2, "x": 3}, "": {"y": 9, "x": 8}}], ("safe late", LATE)),
    (("rings late", LATE), [RING_PAPER, ("0", ("y", "x"), (("y", "0"),))], ("rings late", CALM)),
    (("safe", CLOSED), [SAFE_RANKS], ("safe", LOOSE)),
    (("rings", LOOSE), [ROUND_PAPER, ("01", (), ("m", "k"))], ("rings", CLOSED)),
    (("order", OLD, PART, "home"), [["x", "y"], ("x", "y")], ("order", OLD, NEW, "ring")),
    (("no order", OLD, NEW, "home"), [[[]], ((),)], ("no order", OLD, PART, "ring")),
]

OTHER_PAPERS = [TABLE, Table(3, {"": "a"}), [], (), [(None, "00")], [("00", "01"), ("01", "00")], "10", "1", "100", {},
                LATE_RANKS, {"": {"x": 0, "y": 0}, "0": {"x": 1, "y": 0}}, RING_PAPER, list(RING_PAPER), ("0", ["x", "y"], []),
                ("1", ["x", "y"], [("y", "0")]), SAFE_RANKS, {**SAFE_RANKS, "": {}}, ROUND_PAPER, list(ROUND_PAPER),
                ("01", ["p"], ["k", "m"]), ("00", [], ["k", "m"]), ["x", "y"], ["y", "x"], ["x"], [[]], [[], ["x"]], [["x"]],
                None, True, False, 0, 1, b"10", object(), LATE, CALM, LOOSE, CLOSED, OLD, "fewer"]


class Known(Case):
    def test_true_and_not_true(self):
        for claim, papers, other in KINDS:
            self.assertEqual([is_claim(claim), is_claim(other)], [True, True])
            self.assertEqual([is_true(claim), is_true(other)], [True, False])
            self.assertTrue(is_paper(claim, paper_of(claim)))
            self.assertIsNone(paper_of(other))
            for paper in papers:
                self.assertIs(is_paper(claim, paper), True)
                self.assertIs(is_paper(other, paper), False)
        claim, papers, _ = KINDS[0]
        self.assertTrue(is_paper(value=papers[0], claim=claim))
        self.assertEqual([is_true(claim=claim), len(paper_of(claim=claim)), is_claim(value=claim)], [True, 3, True])

    def test_other_papers(self):
        for claim, papers, other in KINDS:
            for value in OTHER_PAPERS:
                if not any(type(value) is type(paper) and value == paper for paper in papers):
                    self.assertIs(is_paper(claim, value), False, (claim, value))
                self.assertIs(is_paper(other, value), False, (other, value))

    def test_papers_of_fewer(self):
        claim = ("fewer", TABLE, ["11"], 2)
        self.assertTrue(is_paper(claim, Table(2, {"": "a", "01": "b"})))
        self.assertFalse(is_paper(("fewer", TABLE, ["11"], 1), Table(2, {"": "a", "01": "b"})))
        self.assertFalse(is_paper(("fewer", TABLE, [], 2), Table(2, {"": "a", "01": "b"})))
        self.assertTrue(is_paper(("fewer", TABLE, ["11"], 9), Table(2, {"": "b", "00": "a", "10": "a", "11": "hole"})))
        for value in (TABLE, Table(2, {"": "a", "11": "b"}), Table(3, {"": "a", "01": "b"}), Table(2, {"": "a"}), OLD):
            self.assertFalse(is_paper(claim, value))
        self.assertEqual([is_true(("fewer", Table(5), (), 0)), paper_of(("fewer", Table(5), (), 0))], [True, Table(5)])

    def test_papers_of_more(self):
        claim = ("more", TABLE, (), 2)
        three = [(None, "00"), (None, "01"), ("00", "01")]
        self.assertFalse(is_paper(claim, three))
        for value in ([(None, "00"), (None, "01"), ("11", "10")], ((None, "01"), (None, "00"), ("11", "10"))):
            self.assertTrue(is_paper(claim, value))
            self.assertFalse(is_paper(claim, value[:2]))
            self.assertTrue(is_paper(("more", TABLE, (), 1), value[:2]))
            self.assertFalse(is_paper(("more", TABLE, (), 2), [list(pair) for pair in value]))
        self.assertFalse(is_true(("more", Table(5), (), 0)))
        self.assertFalse(is_paper(("more", Table(5), (), 0), []))

    def test_papers_of_unlike(self):
        claim = ("unlike", TABLE, SHORT, ("0",))
        for value in ("11", "01", "00", "1", "100", "", 10, None, ["10"], b"10"):
            self.assertFalse(is_paper(claim, value))
        self.assertEqual([paper_of(claim), paper_of(("unlike", TABLE, SHORT, ()))], ["10", "01"])

    def test_by_chance(self):
        chance = random.Random(161)
        found = {}
        for _ in range(60):
            table = random_table(chance, 3, 6, ("a", "b", "hole"))
            other, free = random_table(chance, 3, 3, ("a", "b", "hole")), random_free(chance, 3, 3)
            late, gathered, (old, new) = random_late(chance, 3, 3, 3), random_gathered(chance), two_chains(chance, 3, 2)
            unlike = any(table(address) != other(address) for address in strings(3)
                         if not any(address.startswith(stretch) for stretch in free))
            told = []
            for many in range(5):
                told.append((("fewer", table, free, many), fewest(table, free) <= many))
                told.append((("more", table, free, many), fewest(table, free) > many))
            told.extend([(("unlike", table, other, free), unlike), (("safe late", late), is_safe_late(late)),
                         (("rings late", late), not is_safe_late(late)), (("safe", gathered), is_safe(gathered)),
                         (("rings", gathered), not is_safe(gathered))])
            for word in ("home", "ring"):
                order = first_order(old, new, word)
                told.extend([(("order", old, new, word), order is not None), (("no order", old, new, word), order is None)])
            for claim, true in told:
                self.assertIs(is_true(claim), true)
                self.assertIs(is_paper(claim, paper_of(claim)), true)
                found[claim[0], true] = found.get((claim[0], true), 0) + 1
        self.assertEqual(len(found), 18)


class NearOnes(Case):
    def not_a_claim(self, value):
        self.assertIs(is_claim(value), False)
        self.check(InvalidClaim, {"value": value}, is_true, value)
        self.check(InvalidClaim, {"value": value}, paper_of, value)
        self.check(InvalidClaim, {"value": value}, is_paper, value, None)

    def test_other_kinds(self):
        for value in WRONG_LISTS + WRONG_ELEMENTS + [("fewer",), "fewer", ("safe",), TABLE, LATE, LOOSE, (LATE,), ("", LATE)]:
            self.not_a_claim(value)
        for claim, _, _ in KINDS:
            for value in (list(claim), claim[1:], claim[:-1], (*claim, ()), (claim,), (claim[0].upper(), *claim[1:]),
                          (claim[0] + " ", *claim[1:]), (None, *claim[1:]), ([claim[0]], *claim[1:]), (0, *claim[1:]),
                          (claim[0].encode("ascii"), *claim[1:])):
                self.not_a_claim(value)

    def test_other_parts(self):
        parts = [None, True, 0, "", "home", [], (), {}, TABLE, SHORT, LATE, CALM, LOOSE, CLOSED, OLD, NEW, Table(3), object()]
        kinds = {"table": Table, "late": Late, "gathered": Gathered, "net": Net}
        for claim, _, _ in KINDS:
            for at, part in product(range(1, len(claim)), parts):
                if type(claim[at]) in kinds.values() and type(part) is not type(claim[at]):
                    self.not_a_claim((*claim[:at], part, *claim[at + 1:]))

    def test_tables_and_free_stretches(self):
        for table, other in ((TABLE, Table(3)), (Table(1), SHORT)):
            self.not_a_claim(("unlike", table, other, ()))
        twenty = stretches_to(5)[-20:]
        wide = Table(5)
        for free in (None, True, 0, "", "0", {}, {"0": 1}, {"0"}, ["0", "0"], ("", "1", ""), ["000000"], [None], [0], [["0"]],
                     ["2"], [b"0"], [*twenty, "0"], stretches_to(5), TABLE):
            for claim in (("fewer", wide, free, 0), ("more", wide, free, 0), ("unlike", wide, wide, free)):
                self.not_a_claim(claim)
        for free in (twenty, tuple(twenty), [], ("",)):
            for claim in (("fewer", wide, free, 0), ("more", wide, free, 0), ("unlike", wide, wide, free)):
                self.assertTrue(is_claim(claim))

    def test_counts(self):
        for word, many in product(("fewer", "more"), (None, True, False, -1, "1", "", b"1", [1], (1,), {}, object(), TABLE)):
            self.not_a_claim((word, TABLE, (), many))
        for word, many in product(("fewer", "more"), (0, 1, 10 ** 30)):
            self.assertTrue(is_claim((word, TABLE, (), many)))

    def test_nets_and_words(self):
        six = Net({"x": Table(6, {bits: "home" for bits in strings(6)[:40]}), "y": Table(6)})
        half = Net({"x": Table(6), "y": Table(6, {bits: "home" for bits in strings(6)[:31]})})
        for word in ("order", "no order"):
            for new in (Net({"x": Table(2), "y": Table(2)}), Net({"x": Table(1)}), OLD.with_table("z", Table(1)),
                        Net({"x": Table(1), "z": Table(1)})):
                self.not_a_claim((word, OLD, new, "home"))
                self.not_a_claim((word, new, OLD, "ring"))
            for good in (None, True, 0, "", "hole", "Home", "rings", b"home", ["home"], ("ring",), {}, OLD):
                self.not_a_claim((word, OLD, NEW, good))
            self.not_a_claim((word, six, half, "home"))
            self.not_a_claim((word, half, six, "home"))
            self.assertTrue(is_claim((word, six, six, "ring")))
            self.assertTrue(is_claim((word, six, half.with_table("y", half["y"] - "000000"), "ring")))

    def test_results_are_new(self):
        for claim, papers, _ in KINDS:
            self.check_new(paper_of, claim)
            self.check_new(is_true, claim)
            self.check_new(is_paper, claim, papers[0])
            self.check_new(is_claim, claim)
