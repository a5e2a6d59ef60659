"""Nets: their tables, and the ways, ends and fates of addresses."""

import random

from coverways.errors import InvalidAddress, InvalidTables, OtherWidth, TooMany, UnknownGoal, UnknownHop
from coverways.nets import Net
from coverways.stretches import cells
from coverways.tables import Table
from tests.support import HOPS, WRONG_HOPS, Case, random_net, strings

NO_NAMES = [None, True, False, 0, 1, "", "abcdefg", "home", "hole", "ring", "all", "none", "A", "x1", b"x", ("x",)]
RING = Net({"x": Table(2, {"": "y"}), "y": Table(2, {"0": "home", "": "x", "11": "hole"})})
FIVE = Net({"x": Table(5, {"": "y"}), "y": Table(5), "z": Table(5, {"0": "z", "": "x"})})


def way_by_words(net, hop, address):
    """The tuple of the way, the end and the hops that are passed again and again."""
    way = []
    while hop in net.hops() and hop not in way:
        way.append(hop)
        hop = net[hop](address)
    if hop in way:
        return way, "ring", way[way.index(hop):]
    return way, hop, []


def many_rows(many):
    return Table(6, {bits: "home" for bits in strings(6)[:many]})


class Making(Case):
    def test_one_and_six_hops(self):
        for hops in (["x"], ["abcdef", "a", "x", "y", "z", "b"], ["b", "a"]):
            tables = {hop: Table(3, {"0": hop}) for hop in hops}
            net = Net(tables)
            self.assertEqual([net.hops(), len(net), net.width, net.many_rows], [sorted(hops), len(hops), 3, len(hops)])
            for hop in hops:
                self.assertEqual(net[hop], tables[hop])
                self.assertIs(hop in net, True)
            self.assertEqual(net, Net(dict(reversed(tables.items()))))
        self.assertEqual(Net(tables={"x": Table(1)}).hops(), ["x"])

    def test_class_values(self):
        self.assertEqual([Net.MOST_HOPS, Net.MOST_ROWS, RING.MOST_HOPS, RING.MOST_ROWS], [6, 70, 6, 70])

    def test_wrong_tables(self):
        for value in (None, True, 0, "", "x", [], (), [("x", Table(1))], {}, {"x"}, object(), Table(1), RING):
            self.check(InvalidTables, {"value": value}, Net, value)
        for hop in NO_NAMES:
            self.check(InvalidTables, {"value": {hop: Table(1)}}, Net, {hop: Table(1)})
            value = {"x": Table(1), hop: Table(2), "y": Table(1, {"": "q"})}
            self.check(InvalidTables, {"value": value}, Net, value)
        for table in (None, True, 0, "", [], {}, {"": "home"}, object(), RING):
            self.check(InvalidTables, {"value": {"x": table}}, Net, {"x": table})
            value = {"x": Table(1), "y": Table(2, {"": "q"}), "z": table}
            self.check(InvalidTables, {"value": value}, Net, value)

    def test_other_widths(self):
        self.check(OtherWidth, {"one": 2, "other": 1}, Net, {"y": Table(1), "x": Table(2)})
        tables = {"z": Table(3), "y": Table(2), "b": Table(1), "a": Table(1)}
        self.check(OtherWidth, {"one": 1, "other": 2}, Net, tables)
        self.check(OtherWidth, {"one": 1, "other": 3}, Net, {"z": Table(1, {"": "q"}), "y": Table(3), "x": Table(1)})

    def test_unknown_goals(self):
        self.check(UnknownGoal, {"value": "y"}, Net, {"x": Table(1, {"": "y"})})
        tables = {"x": Table(2, {"": "t", "0": "s", "00": "home"}), "y": Table(2, {"": "x", "1": "r", "11": "hole"})}
        self.check(UnknownGoal, {"value": "r"}, Net, tables)
        tables["r"] = Table(2)
        self.check(UnknownGoal, {"value": "s"}, Net, tables)
        tables["s"] = tables["t"] = Table(2)
        self.assertEqual(Net(tables).hops(), ["r", "s", "t", "x", "y"])

    def test_too_many_hops(self):
        six = {hop: Table(2) for hop in HOPS}
        self.assertEqual(len(Net(six)), 6)
        self.check(TooMany, {"what": "hops", "limit": 6}, Net, {**six, "g": Table(2)})
        many = {hop + letter: Table(2) for hop in HOPS for letter in HOPS}
        self.check(TooMany, {"what": "hops", "limit": 6}, Net, many)
        self.check(OtherWidth, {"one": 2, "other": 3}, Net, {**six, "zz": Table(3)})
        self.check(UnknownGoal, {"value": "h"}, Net, {**six, "g": Table(2, {"": "h"})})

    def test_seventy_rows(self):
        self.assertEqual(Net({"x": many_rows(40), "y": many_rows(30)}).many_rows, 70)
        self.check(TooMany, {"what": "rows", "limit": 70}, Net, {"x": many_rows(40), "y": many_rows(31)})
        self.check(TooMany, {"what": "rows", "limit": 70}, Net, {hop: many_rows(12) for hop in HOPS})
        self.assertEqual(Net({hop: many_rows(11) for hop in HOPS}).many_rows, 66)
        seven = {hop: many_rows(12) for hop in (*HOPS, "w")}
        self.check(TooMany, {"what": "hops", "limit": 6}, Net, seven)

    def test_what_was_passed_stays(self):
        tables = {"y": Table(1), "x": Table(1)}
        net = Net(tables)
        self.assertEqual(list(tables), ["y", "x"])
        del tables["x"]
        self.assertEqual(net.hops(), ["x", "y"])
        self.check_new(Net({"b": Table(1), "a": Table(1)}).hops)
        self.check_new(RING.cells)
        self.check_new(RING.way, "x", "10")


class Signs(Case):
    def test_items(self):
        self.assertEqual([RING["x"], RING["y"]("11")], [Table(2, {"": "y"}), "hole"])
        self.assertEqual(["x" in RING, "z" in RING], [True, False])
        for wrong in WRONG_HOPS:
            self.check(UnknownHop, {"value": wrong}, RING.__getitem__, wrong)
            self.assertIs(wrong in RING, False)

    def test_it_is_not_iterated_over(self):
        with self.assertRaises(TypeError):
            iter(RING)

    def test_equal_ones(self):
        other = Net({"y": Table(2, {"11": "hole", "": "x", "0": "home"}), "x": Table(2, {"": "y"})})
        self.assertTrue(RING == other)
        self.assertFalse(RING != other)
        for unlike in (Net({"x": Table(2, {"": "y"}), "y": Table(2)}), RING.with_table("z", Table(2)),
                       Net({"x": Table(2)}), None, {"x": Table(2, {"": "y"})}, Table(2), "x", RING["x"]):
            self.assertFalse(RING == unlike)
            self.assertTrue(RING != unlike)
        self.assertFalse(Net({"x": Table(1)}) == Net({"x": Table(2)}))
        self.assertFalse(Net({"x": Table(1)}) == Net({"y": Table(1)}))

    def test_shown(self):
        self.assertEqual(repr(Net({"x": Table(1)})), "Net({'x': Table(1)})")
        told = "Net({'x': Table(2, {'': 'y'}), 'y': Table(2, {'': 'x', '0': 'home', '11': 'hole'})})"
        self.assertEqual(repr(RING), told)
        self.assertEqual(repr(Net({"y": RING["y"], "x": RING["x"]})), told)

    def test_cells(self):
        self.assertEqual(RING.cells(), cells(2, ["", "0", "11"]))
        self.assertEqual(RING.cells(), [("", 1, "10"), ("0", 2, "00"), ("11", 1, "11")])
        self.assertEqual(Net({"x": Table(2)}).cells(), [("", 4, "00")])
        net = Net({"x": Table(100, {"0": "y", "00": "y"}), "y": Table(100, {"01": "home", "0" * 100: "x"})})
        self.assertEqual(net.cells(), cells(100, ["0", "00", "01", "0" * 100]))
        self.assertEqual(net.cells()[1], ("0", 0, None))

    def test_another_table(self):
        self.assertEqual(RING.with_table("x", Table(2)), Net({"x": Table(2), "y": RING["y"]}))
        self.assertEqual(RING.with_table(table=Table(2, {"": "q"}), hop="q").hops(), ["q", "x", "y"])
        self.assertEqual(RING.hops(), ["x", "y"])
        for hop in NO_NAMES:
            self.check(InvalidTables, {"value": hop}, RING.with_table, hop, Table(3))
        self.check(OtherWidth, {"one": 2, "other": 3}, RING.with_table, "y", Table(3))
        self.check(OtherWidth, {"one": 3, "other": 2}, RING.with_table, "a", Table(3))
        self.check(OtherWidth, {"one": 3, "other": 2}, RING.with_table, "x", Table(3))
        self.assertEqual(Net({"x": Table(1)}).with_table("x", Table(3)), Net({"x": Table(3)}))
        self.check(UnknownGoal, {"value": "q"}, RING.with_table, "x", Table(2, {"0": "q"}))
        six = Net({hop: Table(6) for hop in HOPS})
        self.assertEqual(six.with_table("a", many_rows(40)).many_rows, 40)
        self.check(TooMany, {"what": "hops", "limit": 6}, six.with_table, "g", many_rows(1))
        full = Net({"x": many_rows(40), "y": many_rows(30)})
        self.check(TooMany, {"what": "rows", "limit": 70}, full.with_table, "z", many_rows(1))
        self.check(TooMany, {"what": "rows", "limit": 70}, full.with_table, "y", many_rows(31))
        self.assertEqual(full.with_table("z", Table(6)).many_rows, 70)


class Ways(Case):
    def test_word_for_word(self):
        chance = random.Random(31)
        ends = {"home": 0, "hole": 0, "ring": 0}
        for _ in range(300):
            net = random_net(chance, 4, 6, 4)
            for address in strings(net.width):
                for hop in net.hops():
                    way, end, ring = way_by_words(net, hop, address)
                    self.assertEqual(net.way(hop, address), way)
                    self.assertEqual(net.end(hop, address), end)
                    self.assertEqual(net.fate(hop, address), (end, min(ring) if ring else way[-1]))
                    self.assertEqual(net(hop, address), net[hop](address))
                    ends[end] += 1
        self.assertGreater(min(ends.values()), 500)

    def test_by_hand(self):
        self.assertEqual([RING.way("x", "10"), RING.way("y", "10"), RING.way("x", "00"), RING.way("y", "11")],
                         [["x", "y"], ["y", "x"], ["x", "y"], ["y"]])
        self.assertEqual([RING.end("x", "10"), RING.end("x", "00"), RING.end("y", "11")], ["ring", "home", "hole"])
        self.assertEqual([RING.fate("y", "10"), RING.fate("x", "00"), RING.fate("y", "11")],
                         [("ring", "x"), ("home", "y"), ("hole", "y")])
        self.assertEqual([RING("x", "10"), RING("y", "10")], ["y", "x"])
        self.assertEqual([RING("y", "00"), RING("y", "11")], ["home", "hole"])

    def test_a_hop_that_leads_to_itself(self):
        net = Net({"x": Table(1, {"": "x"}), "b": Table(1, {"0": "x"}), "c": Table(1)})
        self.assertEqual([net.way("x", "0"), net.way("b", "0")], [["x"], ["b", "x"]])
        for hop in ("x", "b"):
            self.assertEqual([net.end(hop, "0"), net.fate(hop, "0")], ["ring", ("ring", "x")])
        self.assertEqual([net.way("b", "1"), net.fate("c", "1")], [["b"], ("hole", "c")])

    def test_six_hops(self):
        tables = {hop: Table(1, {"": goal}) for hop, goal in zip(HOPS, (*HOPS[1:], "home"))}
        net = Net(tables)
        self.assertEqual([net.way("a", "0"), net.fate("a", "0")], [list(HOPS), ("home", "z")])
        net = Net({**tables, "z": Table(1, {"": "c"})})
        self.assertEqual([net.way("a", "1"), net.fate("a", "1"), net.fate("z", "1")],
                         [list(HOPS), ("ring", "c"), ("ring", "c")])

    def test_great_widths(self):
        for width in (64, 99, 100):
            low = "0" * width
            net = Net({"x": Table(width, {low: "y", "": "home"}), "y": Table(width, {"0": "x", "1": "y"})})
            self.assertEqual([net.end("x", low), net.end("y", low[1:] + "1"), net.end("y", "1" * width)],
                             ["ring", "home", "ring"])
            self.assertEqual(net.way("y", low[1:] + "1"), ["y", "x"])

    def test_wrong_values(self):
        for action in (FIVE.way, FIVE.end, FIVE.fate, FIVE):
            self.check_hop(lambda hop: action(hop, "00000"))
            self.check_address(lambda address: action("z", address))
            self.check(UnknownHop, {"value": "q"}, action, "q", "2")
            self.check(InvalidAddress, {"value": "0000"}, action, "x", "0000")
            action(address="01010", hop="x")
