"""Widths, bits, names, goals, addresses, stretches, and cells."""

import unittest
from itertools import combinations

from coverways.errors import InvalidAddress, InvalidStretch, InvalidStretches, InvalidWidth
from coverways.stretches import (cell_of, cells, common, first, is_address, is_bits, is_goal, is_name, is_stretch,
                                 is_width, last, number)
from tests.support import WRONG_WIDTHS, Case, strings

ODD_VALUES = [None, True, False, 0, 1, 5, -1, "2", "a b", "~", b"", b"01", [], ["0"], (), ("0",), {}, {"0": "a"},
              {"0"}, object(), str, 10 ** 30]


def all_stretches(width):
    """All stretches of the width, sorted."""
    return sorted(bits for length in range(width + 1) for bits in strings(length))


def slow_cell_of(stretches, address):
    """The longest of the stretches, and of "", with which the address begins."""
    return max([stretch for stretch in ["", *stretches] if address.startswith(stretch)], key=len)


def slow_cells(width, stretches):
    """All cells, by asking for each address."""
    found = {stretch: [] for stretch in sorted({"", *stretches})}
    for address in strings(width):
        found[slow_cell_of(stretches, address)].append(address)
    return [(stretch, len(held), held[0] if held else None) for stretch, held in found.items()]


class Words(Case):
    def test_widths(self):
        for value in (1, 2, 50, 99, 100):
            self.assertIs(is_width(value), True, value)
        for value in WRONG_WIDTHS:
            self.assertIs(is_width(value), False, value)

    def test_bits(self):
        for value in ("", "0", "1", "0110", "01" * 10_000):
            self.assertIs(is_bits(value), True, value)
        for value in ("2", "0 ", " 0", "0\n", "0b1", "-", "01a10", "O", 0, 1, 10, None, True, False, b"", b"01", [],
                      ["0"], (), ("0", "1"), {}, {"0": 1}, {"0"}, object()):
            self.assertIs(is_bits(value), False, value)

    def test_names(self):
        for value in ("a", "z", "az", "abcdef", "zzzzzz", "homes", "hom", "rings", "any", "no", "some"):
            self.assertIs(is_name(value), True, value)
        for value in ("", "abcdefg", "home", "hole", "ring", "all", "none", "A", "Home", "a1", "a b", " a", "a\n", "a_",
                      "`", "{", "a-b", "0", None, True, 1, b"a", ["a"], ("a",), {"a": 1}, {"a"}, object()):
            self.assertIs(is_name(value), False, value)

    def test_goals(self):
        for value in ("a", "abcdef", "home", "hole"):
            self.assertIs(is_goal(value), True, value)
        for value in ("", "abcdefg", "ring", "all", "none", "Home", "home ", "0", None, True, 0, b"home", ["home"],
                      ("home", "hole"), {"home": 1}, {"hole"}, object()):
            self.assertIs(is_goal(value), False, value)

    def test_addresses(self):
        for width in (1, 2, 3):
            for length in range(5):
                for value in strings(length):
                    self.assertIs(is_address(width, value), length == width)
        self.assertIs(is_address(100, "01" * 50), True)
        self.assertIs(is_address(100, "01" * 50 + "0"), False)
        self.assertIs(is_address(100, "0" * 99), False)
        for value in ODD_VALUES + ["a", b"0", {"0": 1}]:
            self.assertIs(is_address(1, value), False, value)

    def test_stretches(self):
        for width in (1, 2, 3):
            for length in range(5):
                for value in strings(length):
                    self.assertIs(is_stretch(width, value), length <= width)
        self.assertIs(is_stretch(100, "1" * 100), True)
        self.assertIs(is_stretch(100, "1" * 101), False)
        for value in ODD_VALUES:
            self.assertIs(is_stretch(1, value), False, value)

    def test_wrong_widths(self):
        for value in WRONG_WIDTHS:
            self.check(InvalidWidth, {"value": value}, is_address, value, "0")
            self.check(InvalidWidth, {"value": value}, is_stretch, value, None)

    def test_by_name(self):
        told = [is_width(value=1), is_bits(value="0"), is_name(value="a"), is_goal(value="hole"),
                is_address(value="0", width=1), is_stretch(value="", width=1)]
        self.assertEqual(told, [True] * 6)


class OneStretch(Case):
    def test_against_all_addresses(self):
        for width in (1, 2, 3, 4):
            for stretch in all_stretches(width):
                held = [address for address in strings(width) if address.startswith(stretch)]
                self.assertEqual(number(width, stretch), len(held))
                self.assertEqual(first(width, stretch), held[0])
                self.assertEqual(last(width, stretch), held[-1])

    def test_hundred_bits(self):
        for length in range(101):
            stretch = ("01" * 50)[:length]
            self.assertEqual(number(100, stretch), 2 ** (100 - length))
            self.assertEqual(first(100, stretch), stretch + "0" * (100 - length))
            self.assertEqual(last(100, stretch), stretch + "1" * (100 - length))
        self.assertEqual(number(100, ""), 1267650600228229401496703205376)

    def test_wrong_values(self):
        for function in (number, first, last):
            for value in WRONG_WIDTHS:
                self.check(InvalidWidth, {"value": value}, function, value, "0")
                self.check(InvalidWidth, {"value": value}, function, value, None)
            for value in [value for value in ODD_VALUES if value != ""] + ["000", "0 ", "02"]:
                self.check(InvalidStretch, {"value": value}, function, 2, value)
            self.check(InvalidStretch, {"value": "0" * 101}, function, 100, "0" * 101)

    def test_by_name(self):
        for function in (number, first, last):
            self.assertEqual(function(stretch="01", width=4), function(4, "01"))


class Common(Case):
    def test_against_all_beginnings(self):
        for one in all_stretches(3):
            for other in all_stretches(3):
                shared = [bits for bits in all_stretches(3) if one.startswith(bits) and other.startswith(bits)]
                self.assertEqual(common(one, other), max(shared, key=len))

    def test_longer_than_a_width(self):
        self.assertEqual(common("01" * 500 + "0", "01" * 500 + "1"), "01" * 500)
        self.assertEqual(common(one="", other="1" * 200), "")

    def test_wrong_values(self):
        for value in ODD_VALUES:
            self.check(InvalidStretch, {"value": value}, common, value, "0")
            self.check(InvalidStretch, {"value": value}, common, "0", value)
        self.check(InvalidStretch, {"value": "2"}, common, "2", "3")
        self.check(InvalidStretch, {"value": None}, common, None, "3")


class Cells(Case):
    def test_against_all_addresses(self):
        for width, most in ((1, 3), (2, 7), (3, 4), (4, 2)):
            for many in range(most + 1):
                for stretches in combinations(all_stretches(width), many):
                    told = cells(width, stretches)
                    self.assertEqual(told, slow_cells(width, stretches))

    def test_cell_of_against_all_addresses(self):
        for width, most in ((1, 3), (2, 7), (3, 3)):
            for many in range(most + 1):
                for stretches in combinations(all_stretches(width), many):
                    for address in strings(width):
                        self.assertEqual(cell_of(width, stretches, address), slow_cell_of(stretches, address))

    def test_sequence_and_equal_stretches_have_no_effect(self):
        self.assertEqual(cells(3, ["01", "0", "01", "", "00", "0"]), cells(3, ["0", "00", "01"]))
        self.assertEqual(cell_of(3, ["01", "0", "01", "", "00", "0"], "011"), "01")

    def test_lists_and_tuples(self):
        for stretches in (["1", "0"], ("1", "0")):
            self.assertEqual(cells(1, stretches), [("", 0, None), ("0", 1, "0"), ("1", 1, "1")])
            self.assertEqual(cell_of(1, stretches, "1"), "1")
        for stretches in ([], ()):
            self.assertEqual(cells(1, stretches), [("", 2, "0")])
            self.assertEqual(cell_of(1, stretches, "1"), "")

    def test_kinds_of_what_is_returned(self):
        told = cells(2, ("0",))
        self.assertIs(type(told), list)
        for cell in told:
            self.assertIs(type(cell), tuple)
        told.append("more")
        self.assertEqual(cells(2, ("0",)), [("", 2, "10"), ("0", 2, "00")])

    def test_arguments_stay_as_they_are(self):
        stretches = ["10", "0", "10"]
        cells(2, stretches)
        cell_of(2, stretches, "11")
        self.assertEqual(stretches, ["10", "0", "10"])

    def test_hundred_bits_one_way_down(self):
        address = "10" * 50
        stretches = [address[:length] for length in range(101)]
        told = cells(100, stretches)
        self.assertEqual([stretch for stretch, _, _ in told], stretches)
        for stretch, many, start in told[:-1]:
            away = address[:len(stretch)] + ("0" if address[len(stretch)] == "1" else "1")
            self.assertEqual((many, start), (2 ** (99 - len(stretch)), away.ljust(100, "0")))
        self.assertEqual(told[-1], (address, 1, address))
        self.assertEqual(sum([many for _, many, _ in told]), 2 ** 100)
        self.assertEqual(cell_of(100, stretches, address), address)
        self.assertEqual(cell_of(100, stretches, address[:60] + "0" * 40), address[:60])

    def test_hundred_bits_both_halves(self):
        told = cells(100, ["0", "1", "1" * 100])
        self.assertEqual(told, [("", 0, None), ("0", 2 ** 99, "0" * 100), ("1", 2 ** 99 - 1, "1" + "0" * 99),
                                ("1" * 100, 1, "1" * 100)])

    def test_first_address_behind_several_inner_stretches(self):
        told = cells(4, ["0", "000", "001", "0100", "011", "1"])
        self.assertEqual(told, slow_cells(4, ["0", "000", "001", "0100", "011", "1"]))
        self.assertEqual(told[1], ("0", 1, "0101"))

    def test_many_stretches(self):
        stretches = strings(10)[::-1] + strings(9)[:900]
        told = cells(11, stretches)
        self.assertEqual(told, slow_cells(11, stretches))

    def test_wrong_values(self):
        for value in WRONG_WIDTHS:
            self.check(InvalidWidth, {"value": value}, cells, value, [])
            self.check(InvalidWidth, {"value": value}, cells, value, None)
            self.check(InvalidWidth, {"value": value}, cell_of, value, None, None)
        for value in (None, True, 1, "", "01", b"01", {}, {"0": "a"}, {"0"}, object(), iter(["0"]), range(2)):
            self.check(InvalidStretches, {"position": None}, cells, 2, value)
            self.check(InvalidStretches, {"position": None}, cell_of, 2, value, None)
        for value in [value for value in ODD_VALUES if value != ""] + ["000"]:
            self.check(InvalidStretches, {"position": 0}, cells, 2, [value])
            self.check(InvalidStretches, {"position": 2}, cells, 2, ["0", "0", value, value])
            self.check(InvalidStretches, {"position": 1}, cell_of, 2, ("11", value), "000")
        for value in ODD_VALUES + ["", "0", "000", "0x"]:
            self.check(InvalidAddress, {"value": value}, cell_of, 2, [], value)
            self.check(InvalidAddress, {"value": value}, cell_of, width=2, stretches=["0"], address=value)

    def test_bits_one_too_long(self):
        self.check(InvalidStretches, {"position": 1}, cells, 100, ["0" * 100, "0" * 101])
        self.check(InvalidAddress, {"value": "0" * 101}, cell_of, 100, ["0" * 100], "0" * 101)

    def test_by_name(self):
        self.assertEqual(cells(stretches=["0"], width=2), [("", 2, "10"), ("0", 2, "00")])
        self.assertEqual(cell_of(address="01", stretches=["0"], width=2), "0")


if __name__ == "__main__":
    unittest.main()
