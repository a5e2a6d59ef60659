"""Free stretches, and tables beside one another."""

import random
from itertools import product

from coverways.beside import (first_unlike, first_with, is_alike, is_used, joined, numbers, unlike_number,
                              used_number, within)
from coverways.errors import InvalidFree, InvalidGoal, InvalidStretch, InvalidWidth, OtherWidth, TooMany
from coverways.tables import Table
from tests.support import (WRONG_WIDTHS, Case, held, random_free, random_table, stretches_to, strings)

GOALS = ("a", "b", "home", "hole")
FIVE = Table(5, {"": "a", "01": "b", "0110": "home"})


def cases(seed, many):
    """Random tuples (table, another one, free stretches) of small widths."""
    chance = random.Random(seed)
    for _ in range(many):
        width = chance.randrange(1, 6)
        tables = [random_table(chance, width, 6, GOALS) for _ in range(2)]
        yield *tables, random_free(chance, width, 4)


class Used(Case):
    def test_by_all_addresses(self):
        for table, _, free in cases(1, 200):
            used = [address for address in strings(table.width) if not held(free, address)]
            self.assertEqual([is_used(table.width, free, address) for address in strings(table.width)],
                             [address in used for address in strings(table.width)])
            self.assertEqual(used_number(table.width, free), len(used))
            self.assertEqual(used_number(table.width, tuple(free)), len(used))

    def test_each_choice_at_width_two(self):
        for choice in product((False, True), repeat=7):
            free = [stretch for stretch, chosen in zip(stretches_to(2), choice) if chosen]
            used = [address for address in strings(2) if not held(free, address)]
            self.assertEqual(used_number(2, free), len(used))
            self.assertEqual(used_number(2, free[::-1]), len(used))

    def test_great_widths(self):
        for width in (64, 99, 100):
            self.assertEqual(used_number(width, []), 2 ** width)
            self.assertEqual(used_number(width, [""]), 0)
            self.assertEqual(used_number(width, ["0"]), 2 ** (width - 1))
            self.assertEqual(used_number(width, ["1" * width, "0", "01", "0" * width]), 2 ** (width - 1) - 1)
            self.assertFalse(is_used(width, ["0" * (width - 1)], "0" * width))
            self.assertTrue(is_used(width, ["0" * (width - 1) + "1"], "0" * width))

    def test_kinds(self):
        self.assertIs(is_used(1, [], "0"), True)
        self.assertIs(is_used(1, ["0"], "0"), False)
        self.assertIs(is_used(width=1, free=("0",), address="1"), True)
        self.assertEqual(used_number(free=["0"], width=3), 4)

    def test_wrong_values(self):
        self.check_free(lambda free: is_used(5, free, "00000"))
        self.check_free(lambda free: used_number(5, free))
        self.check_address(lambda address: is_used(5, [], address))
        for value in WRONG_WIDTHS:
            self.check(InvalidWidth, {"value": value}, is_used, value, None, None)
            self.check(InvalidWidth, {"value": value}, used_number, value, None)

    def test_sequence_of_errors(self):
        self.check(InvalidFree, {"position": 1}, is_used, 2, ["0", "000"], "000")
        self.check(TooMany, {"what": "free", "limit": 20}, is_used, 5, stretches_to(5), None)

    def test_arguments_stay(self):
        self.check_new(lambda free: is_used(2, free, "00"), ["0", "00"])
        self.check_new(lambda free: used_number(2, free), ["1", "0"])


class Numbers(Case):
    def test_by_all_addresses(self):
        for table, _, free in cases(2, 300):
            used = [address for address in strings(table.width) if not held(free, address)]
            goals = [table(address) for address in used]
            told = numbers(table, free)
            self.assertEqual(told, {goal: goals.count(goal) for goal in goals})
            self.assertEqual(list(told), sorted(told))
            for goal in (*GOALS, "other"):
                expected = used[goals.index(goal)] if goal in goals else None
                self.assertEqual(first_with(table, goal, free), expected)
                self.assertEqual(first_with(table, goal, tuple(free[::-1])), expected)

    def test_without_free(self):
        self.assertEqual(numbers(FIVE), {"a": 24, "b": 6, "home": 2})
        self.assertEqual(numbers(Table(3)), {"hole": 8})
        self.assertEqual(numbers(Table(3, {"0": "hole", "1": "a"})), {"a": 4, "hole": 4})
        self.assertEqual([first_with(FIVE, "b"), first_with(FIVE, "home"), first_with(FIVE, "hole")],
                         ["01000", "01100", None])

    def test_all_free(self):
        for free in ([""], ["0", "1"], ["1", "00", "01"], ["", "0"]):
            self.assertEqual(numbers(FIVE, free), {})
            self.assertIsNone(first_with(FIVE, "a", free))

    def test_free_ones_within_others(self):
        for free in (["01", "0110"], ["0110", "01"]):
            self.assertEqual(numbers(FIVE, free), {"a": 24})
            self.assertIsNone(first_with(FIVE, "home", free))
        self.assertEqual(numbers(FIVE, ["0", "00", "000", "11"]), {"a": 8})
        self.assertEqual(first_with(FIVE, "a", ["0", "00", "000", "11"]), "10000")

    def test_great_widths(self):
        for width in (64, 99, 100):
            table = Table(width, {"": "a", "0" * width: "b", "1": "home"})
            self.assertEqual(numbers(table), {"a": 2 ** (width - 1) - 1, "b": 1, "home": 2 ** (width - 1)})
            self.assertEqual(numbers(table, ["1", "0" * width]), {"a": 2 ** (width - 1) - 1})
            self.assertEqual(first_with(table, "a"), "0" * (width - 1) + "1")
            self.assertEqual(first_with(table, "home", ["1" + "0" * (width - 1)]), "1" + "0" * (width - 2) + "1")

    def test_names_of_the_arguments(self):
        self.assertEqual(numbers(table=FIVE, free=["0"]), {"a": 16})
        self.assertEqual(first_with(free=["00"], goal="a", table=FIVE), "10000")

    def test_wrong_values(self):
        self.check_free(lambda free: numbers(FIVE, free))
        self.check_free(lambda free: first_with(FIVE, "a", free))
        self.check_goal(lambda goal: first_with(FIVE, goal))
        self.check(InvalidGoal, {"value": "ring"}, first_with, FIVE, "ring", None)
        self.check(InvalidFree, {"position": None}, first_with, FIVE, "home", None)

    def test_arguments_stay_and_results_are_new(self):
        self.check_new(numbers, FIVE, ["1", "00"])
        self.check_new(first_with, FIVE, "a", ["1", "00"])


class Alike(Case):
    def test_by_all_addresses(self):
        alike = 0
        for one, other, free in cases(3, 500):
            unlike = [address for address in strings(one.width)
                      if not held(free, address) and one(address) != other(address)]
            alike = alike + (not unlike)
            for told in (free, tuple(free[::-1])):
                self.assertIs(is_alike(one, other, told), not unlike)
                self.assertEqual(first_unlike(one, other, told), unlike[0] if unlike else None)
                self.assertEqual(unlike_number(one, other, told), len(unlike))
        self.assertGreater(alike, 20)

    def test_rows_that_do_nothing(self):
        self.assertTrue(is_alike(FIVE, FIVE + ("1", "a") + ("0101", "b")))
        self.assertTrue(is_alike(Table(1), Table(1, {"": "hole"})))
        self.assertTrue(is_alike(Table(1, {"": "a"}), Table(1, {"0": "a", "1": "a"})))
        self.assertFalse(is_alike(Table(1), Table(1, {"1": "home"})))

    def test_all_free(self):
        self.assertTrue(is_alike(FIVE, Table(5), [""]))
        self.assertIsNone(first_unlike(FIVE, Table(5), ["0", "1"]))
        self.assertEqual(unlike_number(FIVE, Table(5), ["1", "0"]), 0)

    def test_great_widths(self):
        for width in (64, 99, 100):
            one = Table(width, {"": "a"})
            other = one + ("1" * width, "b") + ("01", "home")
            self.assertFalse(is_alike(one, other))
            self.assertEqual(unlike_number(one, other), 2 ** (width - 2) + 1)
            self.assertEqual(first_unlike(one, other), "01" + "0" * (width - 2))
            self.assertEqual(first_unlike(one, other, ["01"]), "1" * width)
            self.assertTrue(is_alike(one, other, ["1" * width, "0"]))

    def test_names_of_the_arguments(self):
        self.assertTrue(is_alike(one=FIVE, other=FIVE, free=()))
        self.assertIsNone(first_unlike(other=FIVE, one=FIVE, free=()))
        self.assertEqual(unlike_number(free=["1"], one=FIVE, other=Table(5)), 16)

    def test_wrong_values(self):
        for action in (is_alike, first_unlike, unlike_number):
            self.check_free(lambda free: action(FIVE, FIVE - "01", free))
            for free in ((), None, ["2"], stretches_to(5)):
                self.check(OtherWidth, {"one": 5, "other": 4}, action, FIVE, Table(4), free)
                self.check(OtherWidth, {"one": 1, "other": 100}, action, Table(1), Table(100), free)

    def test_arguments_stay(self):
        for action in (is_alike, first_unlike, unlike_number):
            self.check_new(action, FIVE, FIVE - "01", ["1", "00"])


class Within(Case):
    def test_goals(self):
        for table, _, _ in cases(4, 300):
            for stretch in stretches_to(table.width - 1):
                part = within(table, stretch)
                self.assertEqual(part.width, table.width - len(stretch))
                for address in strings(part.width):
                    self.assertEqual(part(address), table(stretch + address))

    def test_rows(self):
        self.assertEqual(within(FIVE, ""), FIVE)
        self.assertEqual(within(FIVE, "0"), Table(4, {"": "a", "1": "b", "110": "home"}))
        self.assertEqual(within(FIVE, "01"), Table(3, {"": "b", "10": "home"}))
        self.assertEqual(within(FIVE, "011"), Table(2, {"": "b", "0": "home"}))
        self.assertEqual(within(FIVE, "0110"), Table(1, {"": "home"}))
        self.assertEqual(within(FIVE, "1111"), Table(1, {"": "a"}))
        self.assertEqual(within(FIVE - "", "1111"), Table(1))
        self.assertEqual(within(FIVE - "", "0"), Table(4, {"1": "b", "110": "home"}))
        self.assertEqual(within(Table(2, {"": "a", "0": "hole"}), "0"), Table(1, {"": "hole"}))

    def test_a_whole_row_below(self):
        table = Table(2, {"0": "a", "00": "b", "01": "c"})
        self.assertEqual(within(table, "0"), Table(1, {"": "a", "0": "b", "1": "c"}))

    def test_great_widths(self):
        table = Table(100, {"": "a", "0" * 100: "b", "0" * 40: "c"})
        self.assertEqual(within(table, "0" * 99), Table(1, {"": "c", "0": "b"}))
        self.assertEqual(within(table, "0" * 39), Table(61, {"": "a", "0": "c", "0" * 61: "b"}))

    def test_wrong_values(self):
        self.check_stretch(lambda stretch: within(FIVE, stretch))
        self.check(InvalidStretch, {"value": "00000"}, within, FIVE, "00000")
        self.check(InvalidStretch, {"value": "0"}, within, Table(1), "0")
        self.assertEqual(within(table=FIVE, stretch="0000"), Table(1, {"": "a"}))


class Joined(Case):
    def test_goals(self):
        for zero, one, _ in cases(5, 200):
            both = joined(zero, one)
            self.assertEqual(both.width, zero.width + 1)
            for address in strings(zero.width):
                self.assertEqual([both("0" + address), both("1" + address)], [zero(address), one(address)])

    def test_rows(self):
        self.assertEqual(joined(Table(1, {"": "a", "1": "b"}), Table(1, {"": "c", "0": "hole"})),
                         Table(2, {"0": "a", "01": "b", "1": "c", "10": "hole"}))
        self.assertEqual(joined(zero=Table(99), one=Table(99, {"0" * 99: "a"})), Table(100, {"1" + "0" * 99: "a"}))

    def test_widths(self):
        self.check(OtherWidth, {"one": 1, "other": 2}, joined, Table(1), Table(2))
        self.check(OtherWidth, {"one": 100, "other": 99}, joined, Table(100), Table(99))
        self.check(TooMany, {"what": "width", "limit": 100}, joined, Table(100), Table(100))
        self.assertEqual(joined(Table(99), Table(99)), Table(100))

    def test_forty_rows(self):
        rows = {stretch: "a" for stretch in strings(6)[:40]}
        twenty = Table(6, {stretch: "a" for stretch in strings(6)[:20]})
        self.assertEqual(len(joined(twenty, twenty)), 40)
        self.assertEqual(len(joined(Table(6, rows), Table(6))), 40)
        for zero, one in ((twenty, twenty + ("", "b")), (Table(6, rows), Table(6, {"": "a"}))):
            self.check(TooMany, {"what": "rows", "limit": 40}, joined, zero, one)
        whole = Table(100, {"1" * 90 + bits: "a" for bits in strings(5)})
        self.check(TooMany, {"what": "width", "limit": 100}, joined, whole, whole)

    def test_a_joined_one_is_parted_again(self):
        for zero, one, _ in cases(6, 100):
            both = joined(zero, one)
            self.assertEqual([within(both, "0"), within(both, "1")], [zero, one])
