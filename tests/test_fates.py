"""Fates and rings of all addresses of a net, and nets that do the same."""

import random

from coverways.errors import OtherHops, OtherWidth, UnknownHop
from coverways.fates import farthest, fates, first_astray, first_fated, first_other, is_same, rings
from coverways.nets import Net
from coverways.stretches import cell_of
from coverways.tables import Table
from tests.support import HOPS, Case, random_net, random_table, strings

RING = Net({"x": Table(2, {"": "y"}), "y": Table(2, {"0": "home", "": "x", "11": "hole"})})
FIVE = Net({"x": Table(5, {"": "y"}), "y": Table(5), "z": Table(5, {"0": "z", "": "x"})})
NO_FATES = [None, True, 0, 1, "", "home", ["home", "y"], ("home",), ("home", "y", "x"), ("y", "home"), ("ring", "q"),
            ("home", None), (True, "y"), {}, {"home": "y"}, [], (), object(), RING, ("ring", ["x"]), ("none", "y")]


def nets(seed, many):
    chance = random.Random(seed)
    return [random_net(chance, 4, 6, 4) for _ in range(many)]


def great_net(width):
    """A net in which the last address of all, and the first one, have fates of their own."""
    low, high = "0" * width, "1" * width
    return Net({"x": Table(width, {"": "home", low: "y", high: "y"}), "y": Table(width, {"": "x", high: "hole"})})


class Fates(Case):
    def test_by_all_addresses(self):
        for net in nets(41, 200):
            for hop in net.hops():
                all_fates = [net.fate(hop, address) for address in strings(net.width)]
                told = fates(net, hop)
                self.assertEqual(told, {fate: all_fates.count(fate) for fate in all_fates})
                self.assertEqual(list(told), sorted(told))
                for fate in [(word, place) for word in ("home", "hole", "ring") for place in HOPS]:
                    expected = strings(net.width)[all_fates.index(fate)] if fate in all_fates else None
                    self.assertEqual(first_fated(net, hop, fate), expected)

    def test_by_hand(self):
        self.assertEqual(fates(RING, "x"), {("hole", "y"): 1, ("home", "y"): 2, ("ring", "x"): 1})
        self.assertEqual([first_fated(RING, "x", ("home", "y")), first_fated(RING, "y", ("ring", "x"))], ["00", "10"])
        self.assertIsNone(first_fated(RING, "x", ("ring", "y")))
        self.assertEqual(fates(Net({"x": Table(7)}), "x"), {("hole", "x"): 128})

    def test_great_widths(self):
        for width in (64, 99, 100):
            net = great_net(width)
            told = {("hole", "y"): 1, ("home", "x"): 2 ** width - 2, ("ring", "x"): 1}
            self.assertEqual([fates(net, "x"), fates(net, "y")], [told, told])
            self.assertEqual(first_fated(net, "y", ("home", "x")), "0" * (width - 1) + "1")
            self.assertEqual(first_fated(net, "x", ("hole", "y")), "1" * width)
            self.assertEqual(first_fated(net, "x", ("ring", "x")), "0" * width)

    def test_fates_that_are_none(self):
        for fate in NO_FATES:
            self.assertIsNone(first_fated(RING, "x", fate))
        self.assertEqual(first_fated(net=RING, hop="x", fate=("hole", "y")), "11")

    def test_wrong_values(self):
        self.check_hop(lambda hop: fates(FIVE, hop))
        self.check_hop(lambda hop: first_fated(FIVE, hop, ("home", "x")))
        self.check(UnknownHop, {"value": "ring"}, first_fated, FIVE, "ring", None)
        self.assertEqual(fates(hop="z", net=FIVE), {("hole", "y"): 16, ("ring", "z"): 16})
        self.check_new(fates, FIVE, "x")


class Rings(Case):
    def test_by_all_addresses(self):
        found = 0
        for net in nets(42, 200):
            stretches = [stretch for stretch, _, _ in net.cells()]
            expected = {}
            for address in strings(net.width):
                for hop in net.hops():
                    ring = [hop]
                    while net(ring[-1], address) in net and net(ring[-1], address) not in ring:
                        ring.append(net(ring[-1], address))
                    if net(ring[-1], address) == hop and hop == min(ring):
                        expected[cell_of(net.width, stretches, address), tuple(ring)] = True
            self.assertEqual(rings(net), sorted(expected))
            found = found + len(expected)
        self.assertGreater(found, 100)

    def test_by_hand(self):
        self.assertEqual(rings(RING), [("", ("x", "y"))])
        self.assertEqual(rings(FIVE), [("0", ("z",))])
        net = Net({"x": Table(1, {"": "z"}), "y": Table(1, {"0": "y", "": "home"}), "z": Table(1, {"": "a"}),
                   "a": Table(1, {"": "x"})})
        self.assertEqual(rings(net), [("", ("a", "x", "z")), ("0", ("a", "x", "z")), ("0", ("y",))])
        self.assertEqual(rings(Net({"x": Table(1)})), [])

    def test_an_empty_cell(self):
        net = Net({"x": Table(2, {"": "x", "0": "home", "1": "home"})})
        self.assertEqual([rings(net), first_astray(net)], [[], None])

    def test_great_widths(self):
        for width in (64, 99, 100):
            self.assertEqual(rings(great_net(width)), [("0" * width, ("x", "y"))])
        self.check_new(rings, FIVE)


class Astray(Case):
    def test_by_all_addresses(self):
        for net in nets(43, 200):
            astray = [(address, hop) for address in strings(net.width) for hop in net.hops()
                      if net.end(hop, address) != "home"]
            self.assertEqual(first_astray(net), astray[0] if astray else None)

    def test_by_hand(self):
        self.assertEqual([first_astray(RING), first_astray(net=FIVE)], [("10", "x"), ("00000", "x")])
        self.assertIsNone(first_astray(Net({"x": Table(100, {"": "home"}), "y": Table(100, {"": "x"})})))
        self.assertEqual(first_astray(Net({"x": Table(2, {"": "home"}), "a": Table(2, {"": "x", "01": "a"})})),
                         ("01", "a"))

    def test_great_widths(self):
        for width in (64, 99, 100):
            high = "1" * width
            net = Net({"x": Table(width, {"": "home"}), "y": Table(width, {"": "x", high: "hole"})})
            self.assertEqual(first_astray(net), (high, "y"))


class Farthest(Case):
    def test_by_all_addresses(self):
        for net in nets(44, 200):
            told = [(len(net.way(hop, address)), address, hop) for address in strings(net.width) for hop in net.hops()]
            most = max(many for many, _, _ in told)
            self.assertEqual(farthest(net), min(entry for entry in told if entry[0] == most))

    def test_several_that_are_as_long(self):
        self.assertEqual(farthest(RING), (2, "00", "x"))
        self.assertEqual(farthest(FIVE), (3, "10000", "z"))
        self.assertEqual(farthest(Net({"y": Table(3), "x": Table(3)})), (1, "000", "x"))
        net = Net({"b": Table(2, {"01": "c", "11": "c"}), "c": Table(2), "a": Table(2, {"1": "c"})})
        self.assertEqual(farthest(net), (2, "01", "b"))
        self.assertEqual(farthest(net=net.with_table("a", Table(2, {"": "b"}))), (3, "01", "a"))

    def test_great_widths(self):
        for width in (64, 99, 100):
            tables = {hop: Table(width, {"1" * width: goal}) for hop, goal in zip(HOPS, HOPS[1:])}
            self.assertEqual(farthest(Net({**tables, "z": Table(width)})), (6, "1" * width, "a"))


class Same(Case):
    def test_by_all_addresses(self):
        chance = random.Random(45)
        same = 0
        for net in nets(46, 300):
            other = net
            for hop in net.hops():
                if chance.randrange(3) == 0:
                    other = other.with_table(hop, random_table(chance, net.width, 2, (*net.hops(), "home", "hole")))
            unlike = [(address, hop) for address in strings(net.width) for hop in net.hops()
                      if net.fate(hop, address) != other.fate(hop, address)]
            same = same + (not unlike and net != other)
            for one, another in ((net, other), (other, net)):
                self.assertEqual(first_other(one, another), unlike[0] if unlike else None)
                self.assertIs(is_same(one, another), not unlike)
        self.assertGreater(same, 3)

    def test_by_hand(self):
        # The same ends, but not at the same hop; the same ring, by another way.
        one = Net({"x": Table(1, {"": "y"}), "y": Table(1, {"": "home"})})
        self.assertEqual(first_other(one, one.with_table("x", Table(1, {"": "home"}))), ("0", "x"))
        one = Net({"x": Table(1, {"": "y"}), "y": Table(1, {"": "x"}), "z": Table(1, {"": "x"})})
        self.assertTrue(is_same(one, one.with_table("z", Table(1, {"": "y"}))))
        self.assertTrue(is_same(one=RING, other=RING))
        self.assertIsNone(first_other(one=RING, other=RING))

    def test_great_widths(self):
        for width in (64, 99, 100):
            net = great_net(width)
            other = net.with_table("y", net["y"] + ("1" * width, "home") + ("1" * (width - 1) + "0", "home"))
            self.assertEqual(first_other(net, other), ("1" * (width - 1) + "0", "y"))
            self.assertTrue(is_same(net, net.with_table("x", net["x"] + ("01", "home"))))

    def test_wrong_values(self):
        for action in (is_same, first_other):
            self.check(OtherWidth, {"one": 5, "other": 2}, action, FIVE, RING)
            self.check(OtherWidth, {"one": 1, "other": 2}, action, Net({"x": Table(1)}), RING)
            other = Net({"q": Table(5), "b": Table(5)})
            self.check(OtherHops, {"one": ["x", "y", "z"], "other": ["b", "q"]}, action, FIVE, other)
            self.check(OtherHops, {"one": ["b", "q"], "other": ["x", "y", "z"]}, action, other, FIVE)
            part = Net({"x": Table(5), "y": Table(5)})
            self.check(OtherHops, {"one": ["x", "y", "z"], "other": ["x", "y"]}, action, FIVE, part)
