"""Tables: their rows, goals, cells and signs."""

import unittest
from itertools import product

from coverways.errors import InvalidAddress, InvalidRows, InvalidWidth, OtherWidth, TooMany, UnknownStretch
from coverways.stretches import cells
from coverways.tables import Table
from tests.support import WRONG_WIDTHS, Case, strings

NO_STRETCHES = [None, True, False, 0, 1, "2", "000", "0 ", b"0", (), ("0",), 10 ** 30, object()]
NO_GOALS = [None, True, False, 0, 1, "", "abcdefg", "ring", "all", "none", "A", "a1", "0", b"a", [], ["a"], ("a",), {},
            object()]
NO_ROWS = ([None, True, 0, 1, "", "0a", "ab", b"0a", [], ["0", "a"], (), ("0",), ("0", "a", "b"), {"0": "a"}, {},
            object(), Table(2), Table(2, {"0": "a"})]
           + [(stretch, "a") for stretch in NO_STRETCHES + [["0"], {"0": 1}]]
           + [("0", goal) for goal in NO_GOALS])
NOT_THERE = [None, True, False, 0, 1, "1", "00", "000", "2", b"0", [], ["0"], (), ("0",), ("0", "a"), {}, {"0": "a"},
             {"0"}, object(), Table(2, {"0": "a"})]


def many_rows(many, width=6):
    """The dict of so many rows of the width."""
    return {stretch: "a" for stretch in strings(width)[:many]}


def small_tables():
    """All tables of width 2 whose rows go to a or b, with "", 0, 01 and 10 at most."""
    for goals in product((None, "a", "b"), repeat=4):
        yield Table(2, {stretch: goal for stretch, goal in zip(("10", "", "01", "0"), goals) if goal is not None})


class Making(Case):
    def test_without_rows(self):
        for table in (Table(1), Table(1, None), Table(1, {}), Table(width=1, rows=None), Table.of(1)):
            self.assertEqual((table.width, table.rows(), len(table)), (1, {}, 0))
            self.assertEqual([table("0"), table("1"), table.row("0")], ["hole", "hole", None])

    def test_rows_of_each_goal(self):
        rows = {"": "abcdef", "0": "home", "01": "hole", "11": "z"}
        self.assertEqual(Table(2, rows).rows(), rows)
        self.assertEqual(Table(rows=rows, width=2), Table(2, rows))

    def test_widths(self):
        for width in (1, 2, 99, 100):
            table = Table(width, {"": "a", "0" * width: "b"})
            self.assertEqual(table.width, width)
            self.assertEqual([table("0" * width), table("1" * width)], ["b", "a"])

    def test_wrong_widths(self):
        for value in WRONG_WIDTHS:
            self.check(InvalidWidth, {"value": value}, Table, value)
            self.check(InvalidWidth, {"value": value}, Table, value, {"0": "a"})
            self.check(InvalidWidth, {"value": value}, Table, value, [])
            self.check(InvalidWidth, {"value": value}, Table.of, value)
            self.check(InvalidWidth, {"value": value}, Table.of, value, None)

    def test_wrong_rows(self):
        for value in (True, False, 0, 1, "", "0a", [], [("0", "a")], (), (("0", "a"),), {"0"}, object(), Table(2)):
            self.check(InvalidRows, {"value": value}, Table, 2, value)
        for stretch in NO_STRETCHES:
            self.check(InvalidRows, {"value": {"0": "a", stretch: "a"}}, Table, 2, {"0": "a", stretch: "a"})
        for goal in NO_GOALS:
            self.check(InvalidRows, {"value": {"1": "a", "0": goal}}, Table, 2, {"1": "a", "0": goal})

    def test_bits_one_too_long(self):
        for width in (1, 2, 100):
            rows = {"0" * width: "a", "1" * (width + 1): "a"}
            self.check(InvalidRows, {"value": rows}, Table, width, rows)

    def test_forty_rows_and_one_more(self):
        self.assertEqual(len(Table(6, many_rows(40))), 40)
        self.check(TooMany, {"what": "rows", "limit": 40}, Table, 6, many_rows(41))
        self.check(TooMany, {"what": "rows", "limit": 40}, Table, 6, many_rows(64))
        self.assertEqual(Table.MOST_ROWS, 40)

    def test_too_many_is_told_last(self):
        rows = {**many_rows(41), "2": "a"}
        self.check(InvalidRows, {"value": rows}, Table, 6, rows)

    def test_rows_are_copied(self):
        rows = {"0": "a"}
        table = Table(1, rows)
        rows["1"] = "b"
        self.assertEqual(table.rows(), {"0": "a"})
        told = table.rows()
        told["1"] = "b"
        self.assertEqual(table.rows(), {"0": "a"})

    def test_arguments_stay_as_they_are(self):
        rows = {"1": "a", "0": "b"}
        Table(1, rows)
        self.assertEqual(list(rows.items()), [("1", "a"), ("0", "b")])

    def test_width_cannot_be_set(self):
        with self.assertRaises(AttributeError):
            Table(1).width = 2


class Of(Case):
    def test_later_ones_count(self):
        table = Table.of(2, ("0", "a"), ("1", "b"), ("0", "c"), ("", "hole"), ("0", "home"))
        self.assertEqual(table, Table(2, {"": "hole", "0": "home", "1": "b"}))

    def test_first_wrong_element(self):
        for value in NO_ROWS:
            self.check(InvalidRows, {"value": value}, Table.of, 2, value)
            self.check(InvalidRows, {"value": value}, Table.of, 2, ("0", "a"), ("1", "b"), value, None)

    def test_too_many_by_the_rows_that_are_left(self):
        rows = list(many_rows(40).items())
        self.assertEqual(Table.of(6, *rows, *rows, rows[0]), Table(6, many_rows(40)))
        self.check(TooMany, {"what": "rows", "limit": 40}, Table.of, 6, *rows, ("", "a"))
        self.check(InvalidRows, {"value": ("", "")}, Table.of, 6, *rows, ("0", "a"), ("", ""))


class Asking(Case):
    def test_against_all_rows(self):
        for table in small_tables():
            rows = table.rows()
            for address in strings(2):
                holding = [stretch for stretch in rows if address.startswith(stretch)]
                row = max(holding, key=len) if holding else None
                self.assertEqual(table.row(address), row)
                self.assertEqual(table(address), "hole" if row is None else rows[row])

    def test_row_of_all_addresses_is_not_none(self):
        self.assertEqual(Table(1, {"": "a"}).row("1"), "")
        self.assertEqual(Table(1, {"": "a"}).row(address="1"), "")
        self.assertEqual(Table(1, {"": "a"})(address="1"), "a")

    def test_whole_addresses(self):
        table = Table(2, {"01": "hole", "0": "a", "": "home"})
        self.assertEqual([table.row(address) for address in strings(2)], ["0", "01", "", ""])
        self.assertEqual([table(address) for address in strings(2)], ["a", "hole", "home", "home"])

    def test_wrong_addresses(self):
        table = Table(2, {"": "a", "0": "b"})
        for value in (None, True, False, 0, 10, "", "0", "000", "02", "0 ", b"00", ["00"], ("00",), {"00": 1}, {"00"},
                      object(), table):
            self.check(InvalidAddress, {"value": value}, table, value)
            self.check(InvalidAddress, {"value": value}, table.row, value)
        self.check(InvalidAddress, {"value": "0" * 101}, Table(100), "0" * 101)
        self.check(InvalidAddress, {"value": "0" * 99}, Table(100), "0" * 99)

    def test_goals_of_rows(self):
        table = Table(2, {"": "a", "0": "hole", "01": "home"})
        self.assertEqual([table[""], table["0"], table["01"]], ["a", "hole", "home"])

    def test_unknown_stretches(self):
        table = Table(2, {"0": "a"})
        for value in NOT_THERE + [""]:
            self.check(UnknownStretch, {"value": value}, lambda: table[value])
            self.assertIs(value in table, False)
        self.assertIs("0" in table, True)
        self.assertIs("" in Table(1, {"": "a"}), True)

    def test_how_many_rows(self):
        for many in (0, 1, 7, 40):
            self.assertEqual(len(Table(6, many_rows(many))), many)

    def test_not_iterated_over(self):
        with self.assertRaises(TypeError):
            iter(Table(1, {"0": "a"}))

    def test_cells(self):
        self.assertEqual(Table(1).cells(), [("", 2, "0")])
        for table in small_tables():
            self.assertEqual(table.cells(), cells(2, list(table.rows())))
        table = Table(100, {"0": "a", "1" * 100: "b", "00": "a", "01": "c"})
        self.assertEqual(table.cells(), [("", 2 ** 99 - 1, "1" + "0" * 99), ("0", 0, None), ("00", 2 ** 98, "0" * 100),
                                         ("01", 2 ** 98, "01" + "0" * 98), ("1" * 100, 1, "1" * 100)])

    def test_all_addresses_of_a_cell_have_one_row(self):
        for table in small_tables():
            for stretch, many, start in table.cells():
                held = [address for address in strings(2) if (table.row(address) or "") == stretch]
                self.assertEqual((many, start), (len(held), held[0] if held else None))


class Signs(Case):
    def test_a_row_more(self):
        table = Table(2, {"0": "a"})
        self.assertEqual(table + ("1", "b"), Table(2, {"0": "a", "1": "b"}))
        self.assertEqual(("1", "b") + table, Table(2, {"0": "a", "1": "b"}))
        self.assertEqual(table + ("0", "hole"), Table(2, {"0": "hole"}))
        self.assertEqual(("0", "home") + table, Table(2, {"0": "home"}))
        self.assertEqual(table, Table(2, {"0": "a"}))

    def test_wrong_rows(self):
        table = Table(2, {"0": "a"})
        for value in NO_ROWS:
            self.check(InvalidRows, {"value": value}, lambda: table + value)
            if not isinstance(value, Table):
                self.check(InvalidRows, {"value": value}, lambda: value + table)

    def test_too_many_by_a_row_more(self):
        table = Table(6, many_rows(40))
        self.assertEqual((table + ("000000", "b"))("000000"), "b")
        self.assertEqual((("000000", "b") + table)("000000"), "b")
        self.assertEqual(len(Table(6, many_rows(39)) + ("", "b")), 40)
        self.check(TooMany, {"what": "rows", "limit": 40}, lambda: table + ("", "b"))
        self.check(TooMany, {"what": "rows", "limit": 40}, lambda: ("", "b") + table)
        self.check(InvalidRows, {"value": ("", "")}, lambda: table + ("", ""))

    def test_a_row_less(self):
        table = Table(2, {"0": "a", "": "b", "01": "c"})
        self.assertEqual(table - "0", Table(2, {"": "b", "01": "c"}))
        self.assertEqual(table - "" - "0" - "01", Table(2))
        self.assertEqual(table, Table(2, {"0": "a", "": "b", "01": "c"}))

    def test_no_row_less(self):
        table = Table(2, {"0": "a"})
        for value in NOT_THERE + [""]:
            self.check(UnknownStretch, {"value": value}, lambda: table - value)

    def test_rows_of_both(self):
        one, other = Table(2, {"0": "a", "1": "b"}), Table(2, {"1": "c", "": "d"})
        self.assertEqual(one | other, Table(2, {"": "d", "0": "a", "1": "c"}))
        self.assertEqual(other | one, Table(2, {"": "d", "0": "a", "1": "b"}))
        self.assertEqual([one, other], [Table(2, {"0": "a", "1": "b"}), Table(2, {"1": "c", "": "d"})])

    def test_rows_of_both_too_many_or_of_other_widths(self):
        table = Table(6, many_rows(40))
        self.assertEqual(table | table, table)
        self.assertEqual(len(Table(6, many_rows(20)) | table), 40)
        self.check(TooMany, {"what": "rows", "limit": 40}, lambda: table | Table(6, {"": "a"}))
        self.check(TooMany, {"what": "rows", "limit": 40}, lambda: Table(6, {"": "a"}) | table)
        self.check(OtherWidth, {"one": 6, "other": 2}, lambda: table | Table(2))
        self.check(OtherWidth, {"one": 2, "other": 6}, lambda: Table(2) | table)
        self.check(OtherWidth, {"one": 6, "other": 7}, lambda: table | Table(7, {"": "a"}))

    def test_parts(self):
        for one in small_tables():
            for other in list(small_tables())[::4]:
                part = set(one.rows().items()) <= set(other.rows().items())
                self.assertIs(one <= other, part)
                self.assertIs(other >= one, part)

    def test_parts_of_other_widths(self):
        for one, other in ((Table(1), Table(2)), (Table(1, {"0": "a"}), Table(2, {"0": "a", "1": "b"}))):
            for table, beside in ((one, other), (other, one)):
                self.assertIs(table <= beside, False)
                self.assertIs(table >= beside, False)

    def test_parts_look_at_rows_alone(self):
        self.assertIs(Table(1, {"": "hole"}) <= Table(1), False)
        self.assertIs(Table(1) <= Table(1, {"": "hole"}), True)
        self.assertIs(Table(1, {"0": "a"}) <= Table(1, {"0": "b"}), False)

    def test_equal_tables(self):
        rows = {"0": "a", "": "b", "11": "hole"}
        self.assertIs(Table(2, rows) == Table(2, dict(reversed(rows.items()))), True)
        self.assertIs(Table(2, rows) != Table(2, rows), False)
        for other in (Table(3, rows), Table(2), Table(2, {**rows, "0": "b"}), Table(2, {**rows, "1": "a"})):
            self.assertIs(Table(2, rows) == other, False)
            self.assertIs(Table(2, rows) != other, True)
        self.assertIs(Table(1) == Table(2), False)

    def test_not_equal_to_values_of_another_kind(self):
        for value in (None, True, 0, 2, "Table(2)", b"", [], (), {}, {"0": "a"}, object(), Table):
            self.assertIs(Table(2) == value, False)
            self.assertIs(value == Table(2), False)
            self.assertIs(Table(2) != value, True)

    def test_repr(self):
        self.assertEqual(repr(Table(2, {"01": "b", "": "a"})), "Table(2, {'': 'a', '01': 'b'})")
        self.assertEqual(repr(Table(100)), "Table(100)")
        self.assertEqual(repr(Table(100, {})), "Table(100)")
        for table in small_tables():
            self.assertEqual(eval(repr(table)), table)

    def test_rows_are_told_sorted(self):
        rows = {"1": "a", "01": "b", "": "c", "00": "d", "0": "e"}
        sequence = ["", "0", "00", "01", "1"]
        for table in (Table(2, rows), Table.of(2, *rows.items()), Table(2, {"1": "a"}) | Table(2, rows),
                      (Table(2, rows) - "0") + ("0", "e"), ("", "c") + (Table(2, rows) - "")):
            self.assertEqual(list(table.rows()), sequence)
            self.assertEqual(repr(table), "Table(2, {'': 'c', '0': 'e', '00': 'd', '01': 'b', '1': 'a'})")

    def test_nothing_changes_when_a_call_fails(self):
        table = Table(2, {"0": "a"})
        for action in (lambda: table + None, lambda: table - "1", lambda: table | Table(3), lambda: table["1"]):
            with self.assertRaises((InvalidRows, UnknownStretch, OtherWidth)):
                action()
        self.assertEqual(repr(table), "Table(2, {'0': 'a'})")


if __name__ == "__main__":
    unittest.main()
