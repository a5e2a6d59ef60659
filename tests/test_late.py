"""Late nets: firm and loose rows, chains and heads, moments."""

import random
from itertools import product

from coverways.errors import InvalidAddress, InvalidFirm, InvalidGone, UnknownHop, UnknownStretch
from coverways.late import Late
from coverways.nets import Net
from coverways.tables import Table
from tests.support import WRONG_ELEMENTS, WRONG_HOPS, WRONG_LISTS, Case, random_late, strings

NET = Net({"x": Table(2, {"": "y", "0": "hole", "01": "home"}), "y": Table(2, {"1": "x", "11": "y"}), "z": Table(2)})
PART = {"x": ["", "01"], "y": ["1"]}
LATE = Late(NET, PART)
FIVE = Late(Net({"x": Table(5, {"": "y", "0": "home"}), "y": Table(5), "z": Table(5)}))


def chain_by_words(late, hop, address):
    holding = [stretch for stretch in late.net[hop].rows() if address.startswith(stretch)]
    holding = sorted(holding, key=len, reverse=True)
    for at, stretch in enumerate(holding):
        if stretch in late.firm()[hop]:
            return holding[:at + 1]
    return holding


class Making(Case):
    def test_firm_and_loose(self):
        self.assertEqual(LATE.net, NET)
        self.assertEqual(LATE.firm(), {"x": ["", "01"], "y": ["1"], "z": []})
        self.assertEqual(list(LATE.firm()), ["x", "y", "z"])
        self.assertEqual(LATE.loose(), [("x", "0"), ("y", "11")])
        all_rows = [("x", ""), ("x", "0"), ("x", "01"), ("y", "1"), ("y", "11")]
        for late in (Late(NET), Late(NET, None), Late(NET, {}), Late(net=NET, firm={"z": [], "x": ()})):
            self.assertEqual(late.firm(), {"x": [], "y": [], "z": []})
            self.assertEqual(late.loose(), all_rows)
        self.assertEqual(Late(NET, {"y": ("11", "1"), "x": ["01", "", "0"]}).loose(), [])
        self.assertEqual(Late(NET, {"y": ("11", "1")}).firm()["y"], ["1", "11"])

    def test_wrong_firm(self):
        for value in (True, False, 0, 1, "", "x", [], (), [("x", "")], {"x"}, object(), NET, NET["x"], LATE):
            self.check(InvalidFirm, {"value": value}, Late, NET, value)
        for hop in WRONG_HOPS:
            if isinstance(hop, (list, dict, Table)):
                continue
            self.check(InvalidFirm, {"value": {hop: []}}, Late, NET, {hop: []})
            self.check(InvalidFirm, {"value": {"x": ["0"], hop: [""]}}, Late, NET, {"x": ["0"], hop: [""]})
        for wrong in WRONG_LISTS:
            self.check(InvalidFirm, {"value": {"x": wrong}}, Late, NET, {"x": wrong})
        for wrong in WRONG_ELEMENTS + ["1", "00", "011"]:
            self.check(InvalidFirm, {"value": {"x": [wrong]}}, Late, NET, {"x": [wrong]})
            value = {"y": ["1"], "x": ("", wrong, "0")}
            self.check(InvalidFirm, {"value": value}, Late, NET, value)
        self.check(InvalidFirm, {"value": {"x": ["0", "0"]}}, Late, NET, {"x": ["0", "0"]})
        self.check(InvalidFirm, {"value": {"x": ["0", "", "0"]}}, Late, NET, {"x": ["0", "", "0"]})
        self.check(InvalidFirm, {"value": {"z": [""]}}, Late, NET, {"z": [""]})

    def test_what_was_passed_stays(self):
        told = {"y": ["11", "1"], "x": []}
        late = Late(NET, told)
        self.assertEqual([told, list(told)], [{"y": ["11", "1"], "x": []}, ["y", "x"]])
        told["x"].append("")
        told["z"] = []
        self.assertEqual(late.firm(), {"x": [], "y": ["1", "11"], "z": []})
        for action in (late.firm, late.loose):
            self.check_new(action)
        self.check_new(late.chain, "x", "00")
        self.check_new(late.heads, "x", "00")
        self.check_new(late.at, [("x", "0")])

    def test_rows_made_firm_and_loose(self):
        for hop, stretch in Late(NET).loose():
            for late in (LATE, Late(NET)):
                firm = late.made_firm(hop, stretch)
                loose = late.made_loose(hop=hop, stretch=stretch)
                others = [row for row in late.loose() if row != (hop, stretch)]
                self.assertEqual([firm.net, firm.loose(), loose.net], [NET, others, NET])
                self.assertEqual(loose.loose(), sorted([*others, (hop, stretch)]))
                self.assertEqual([firm.made_firm(hop, stretch), loose.made_loose(hop, stretch)], [firm, loose])
        self.assertEqual(LATE.firm(), {"x": ["", "01"], "y": ["1"], "z": []})
        self.assertEqual(LATE.made_firm("x", "0").firm()["x"], ["", "0", "01"])

    def test_wrong_rows(self):
        for action in (FIVE.made_firm, FIVE.made_loose):
            self.check_hop(lambda hop: action(hop, ""))
            for stretch in WRONG_ELEMENTS + ["1", "000000", "0" * 200, NET["x"]]:
                self.check(UnknownStretch, {"value": stretch}, action, "x", stretch)
            self.check(UnknownStretch, {"value": "0"}, action, "y", "0")
            self.check(UnknownHop, {"value": "q"}, action, "q", None)


class Chains(Case):
    def test_word_for_word(self):
        chance = random.Random(51)
        for _ in range(200):
            late = random_late(chance, 4, 4, 7)
            for hop, address in product(late.net.hops(), strings(late.net.width)):
                chain = chain_by_words(late, hop, address)
                self.assertEqual(late.chain(hop, address), chain)
                heads = []
                for stretch in chain:
                    if late.net[hop][stretch] not in heads:
                        heads.append(late.net[hop][stretch])
                if not chain or chain[-1] not in late.firm()[hop]:
                    heads = [goal for goal in heads if goal != "hole"] + ["hole"]
                self.assertEqual(late.heads(hop, address), heads)

    def test_heads_are_the_goals_of_all_moments(self):
        chance = random.Random(52)
        for _ in range(40):
            late = random_late(chance, 3, 2, 4)
            loose = late.loose()
            moments = [late.at([row for row, gone in zip(loose, choice) if gone])
                       for choice in product((False, True), repeat=len(loose))]
            for hop, address in product(late.net.hops(), strings(late.net.width)):
                self.assertEqual(set(late.heads(hop, address)), {net(hop, address) for net in moments})

    def test_that_end_with_a_firm_row(self):
        self.assertEqual([LATE.chain("x", "00"), LATE.chain("x", "01"), LATE.chain("x", "11"), LATE.chain("y", "11")],
                         [["0", ""], ["01"], [""], ["11", "1"]])
        self.assertEqual([LATE.heads("x", "00"), LATE.heads("x", "01"), LATE.heads("y", "11")],
                         [["hole", "y"], ["home"], ["y", "x"]])

    def test_that_end_without_one(self):
        late = Late(NET)
        self.assertEqual([late.chain("x", "01"), late.heads("x", "01")], [["01", "0", ""], ["home", "y", "hole"]])
        self.assertEqual([late.chain("x", "00"), late.heads("x", "00")], [["0", ""], ["y", "hole"]])
        self.assertEqual([late.chain("z", "00"), late.heads("z", "00")], [[], ["hole"]])
        self.assertEqual([LATE.chain("y", "00"), LATE.heads("y", "00")], [[], ["hole"]])
        late = Late(Net({"x": Table(1, {"0": "hole"})}))
        self.assertEqual([late.heads("x", "0"), late.made_firm("x", "0").heads("x", "0")], [["hole"], ["hole"]])

    def test_goals_that_come_again(self):
        net = Net({"x": Table(3, {"000": "y", "00": "hole", "0": "y", "": "hole"}), "y": Table(3)})
        self.assertEqual(Late(net).heads("x", "000"), ["y", "hole"])
        self.assertEqual(Late(net, {"x": [""]}).heads("x", "000"), ["y", "hole"])
        self.assertEqual(Late(net, {"x": [""]}).heads("x", "001"), ["hole", "y"])
        self.assertEqual(Late(net).heads("x", "001"), ["y", "hole"])
        self.assertEqual(Late(net, {"x": ["0"]}).heads("x", "001"), ["hole", "y"])

    def test_great_widths(self):
        for width in (64, 99, 100):
            low = "0" * width
            net = Net({"x": Table(width, {low: "x", "0": "y", "": "home"}), "y": Table(width)})
            late = Late(net, {"x": ["0"]})
            self.assertEqual([late.chain("x", low), late.heads("x", low)], [[low, "0"], ["x", "y"]])
            self.assertEqual([late.chain("x", "1" * width), late.heads("x", "1" * width)], [[""], ["home", "hole"]])

    def test_wrong_values(self):
        for action in (FIVE.chain, FIVE.heads):
            self.check_hop(lambda hop: action(hop, "00000"))
            self.check_address(lambda address: action("x", address))
            self.check(UnknownHop, {"value": "q"}, action, "q", "2")
            self.check(InvalidAddress, {"value": "2"}, action, "y", "2")
            action(address="00000", hop="z")


class Moments(Case):
    def test_rows_that_are_gone(self):
        self.assertEqual(LATE.at([]), NET)
        self.assertEqual(LATE.at(()), NET)
        self.assertEqual(LATE.at([("x", "0")]), NET.with_table("x", NET["x"] - "0"))
        both = Net({"x": NET["x"] - "0", "y": NET["y"] - "11", "z": NET["z"]})
        self.assertEqual(LATE.at([("y", "11"), ("x", "0")]), both)
        self.assertEqual(LATE.at(gone=(("x", "0"), ("y", "11"))), both)
        self.assertEqual(Late(NET).at(Late(NET).loose()), Net({hop: Table(2) for hop in NET.hops()}))
        self.assertEqual(LATE.net, NET)

    def test_wrong_ones(self):
        for value in WRONG_LISTS:
            self.check(InvalidGone, {"position": None}, LATE.at, value)
        for wrong in WRONG_ELEMENTS + ["x0", ["x", "0"], ("x",), ("x", "0", "0"), ("x", ""), ("x", "01"), ("y", "1"),
                                       ("y", "0"), ("z", ""), ("q", "0"), ("x", None), (None, "0"), ("x", ["0"]),
                                       ("x", "1"), (["x"], "0"), (NET, NET["x"]), ("0", "x")]:
            self.check(InvalidGone, {"position": 0}, LATE.at, [wrong])
            self.check(InvalidGone, {"position": 1}, LATE.at, [("x", "0"), wrong, ("x", "0")])
            self.check(InvalidGone, {"position": 2}, LATE.at, (("x", "0"), ("y", "11"), wrong))
        self.check(InvalidGone, {"position": 1}, LATE.at, [("x", "0"), ("x", "0")])
        self.check(InvalidGone, {"position": 2}, LATE.at, [("x", "0"), ("y", "11"), ("x", "0"), None])


class Signs(Case):
    def test_order(self):
        less, more = Late(NET, {"x": [""]}), Late(NET, {"x": ["", "0"], "y": ["1"]})
        beside = Late(NET, {"x": ["01"]})
        self.assertEqual([less <= more, more <= less, less <= less, more >= less, less >= more, more >= more],
                         [True, False, True, True, False, True])
        self.assertEqual([less <= beside, beside <= less, less >= beside, beside >= less], [False] * 4)
        self.assertEqual([Late(NET) <= less, Late(NET) >= less, less <= Late(NET)], [True, False, False])
        for other in (Net({"x": Table(1)}), NET.with_table("q", Table(2)), NET.with_table("z", Table(2, {"0": "x"}))):
            self.assertEqual([Late(NET) <= Late(other), Late(NET) >= Late(other)], [False, False])
            self.assertEqual([Late(other) <= Late(NET), Late(other) >= Late(NET)], [False, False])

    def test_equal_ones(self):
        self.assertTrue(LATE == Late(NET, {"y": ("1",), "x": ["01", ""], "z": ()}))
        self.assertFalse(LATE != Late(NET, PART))
        self.assertTrue(Late(NET) == Late(NET, {"x": []}))
        for other in (Late(NET), LATE.made_firm("x", "0"), Late(NET.with_table("q", Table(2)), PART),
                      Late(NET.with_table("z", Table(2, {"0": "x"})), PART), NET, PART, None, "x", [LATE]):
            self.assertFalse(LATE == other)
            self.assertTrue(LATE != other)

    def test_shown(self):
        self.assertEqual(repr(Late(Net({"x": Table(1)}))), "Late(Net({'x': Table(1)}), {'x': []})")
        late = Late(Net({"y": Table(1, {"1": "home", "0": "x"}), "x": Table(1)}), {"y": ["1", "0"]})
        self.assertEqual(repr(late), "Late(Net({'x': Table(1), 'y': Table(1, {'0': 'x', '1': 'home'})}), "
                                     "{'x': [], 'y': ['0', '1']})")
