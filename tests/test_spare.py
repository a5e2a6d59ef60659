"""SETS and NEEDS, the fewest rows, and the spare table."""

import random
from itertools import combinations, product

from coverways.beside import is_alike
from coverways.errors import InvalidFree, InvalidStretch, TooMany
from coverways.spare import fewest, is_spare, need_at, set_at, spare
from coverways.tables import Table
from tests.support import Case, held, random_free, random_table, stretches_to, strings

GOALS = ("a", "b", "home", "hole")
SHORT = Table(2, {"00": "a", "10": "a", "01": "b", "11": "b"})
FIVE = Table(5, {"": "a", "01": "b", "0110": "home"})


def set_and_need(table, free, stretch):
    """The SET, None for ALL, and the NEED of a stretch, word for word, down to each address."""
    if len(stretch) == table.width:
        return (None if held(free, stretch) else {table(stretch)}), 0
    (zero, few), (one, more) = [set_and_need(table, free, stretch + bit) for bit in "01"]
    if zero is None or one is None:
        return (one if zero is None else zero), few + more
    if zero & one:
        return zero & one, few + more
    return zero | one, few + more + 1


def needed_by_trying(table, free):
    """The number of rows of the smallest table that has the goals, by trying all smaller ones."""
    goals = sorted({table(address) for address in strings(table.width)} | {"hole"})
    for many in range(len(table) + 1):
        for chosen in combinations(stretches_to(table.width), many):
            for told in product(goals, repeat=many):
                if is_alike(table, Table(table.width, dict(zip(chosen, told))), free):
                    return many


def cases(seed, many, most_width=5):
    chance = random.Random(seed)
    for _ in range(many):
        width = chance.randrange(1, most_width + 1)
        goals = chance.choice((GOALS, GOALS[:2], GOALS[2:]))
        yield random_table(chance, width, 7, goals), random_free(chance, width, chance.choice((0, 3, 8)))


class SetsAndNeeds(Case):
    def test_word_for_word(self):
        for table, free in cases(11, 300):
            for stretch in stretches_to(table.width):
                goals, need = set_and_need(table, free, stretch)
                for told in (free, tuple(free[::-1])):
                    self.assertEqual(set_at(table, stretch, told), "all" if goals is None else sorted(goals))
                    self.assertEqual(need_at(table, stretch, told), need)

    def test_by_hand(self):
        self.assertEqual([set_at(SHORT, ""), set_at(SHORT, "0"), set_at(SHORT, "01")], [["a", "b"], ["a", "b"], ["b"]])
        self.assertEqual([need_at(SHORT, ""), need_at(SHORT, "0"), need_at(SHORT, "01")], [2, 1, 0])
        self.assertEqual([set_at(Table(3), ""), need_at(Table(3), "")], [["hole"], 0])
        self.assertEqual([set_at(FIVE, "01"), set_at(FIVE, "0"), need_at(FIVE, "")], [["b"], ["a", "b"], 2])

    def test_all(self):
        self.assertEqual([set_at(SHORT, "", [""]), need_at(SHORT, "", [""])], ["all", 0])
        self.assertEqual([set_at(SHORT, "", ["1", "0"]), need_at(SHORT, "", ["1", "0"])], ["all", 0])
        self.assertEqual([set_at(SHORT, "1", ["1"]), set_at(SHORT, "11", ["1"]), set_at(SHORT, "0", ["1"])],
                         ["all", "all", ["a", "b"]])
        self.assertEqual([set_at(SHORT, "0", ["00"]), set_at(SHORT, "", ["00", "10"])], [["b"], ["b"]])
        self.assertEqual(set_at(SHORT, "", ["00", "1", "01"]), "all")

    def test_great_widths(self):
        for width in (64, 99, 100):
            table = Table(width, {"": "a", "0" * width: "b", "1" * width: "home"})
            self.assertEqual([set_at(table, ""), need_at(table, "")], [["a"], 2])
            self.assertEqual(set_at(table, "0" * (width - 1)), ["a", "b"])
            self.assertEqual([set_at(table, "0" * width), need_at(table, "0" * width)], [["b"], 0])
            self.assertEqual([set_at(table, "01" * 20), set_at(table, "1" * width)], [["a"], ["home"]])
            self.assertEqual([need_at(table, "0" * 50), need_at(table, "0" * 50, ["0" * 60])], [1, 0])
            self.assertEqual(set_at(table, "0" * 61, ["0" * 60]), "all")

    def test_wrong_values(self):
        for action in (set_at, need_at):
            self.check_stretch(lambda stretch: action(FIVE, stretch))
            self.check_free(lambda free: action(FIVE, "01", free))
            self.check(InvalidStretch, {"value": "000000"}, action, FIVE, "000000", None)
            self.check(InvalidFree, {"position": 0}, action, FIVE, "00000", ["000000"])
            self.check_new(action, FIVE, "", ["1"])
        self.check_new(set_at, FIVE, "0")

    def test_names_of_the_arguments(self):
        self.assertEqual(set_at(table=SHORT, stretch="0", free=()), ["a", "b"])
        self.assertEqual(need_at(free=["00"], stretch="0", table=SHORT), 0)


class Fewest(Case):
    def test_by_trying_all_smaller_tables(self):
        for table, free in cases(12, 150, 2):
            self.assertEqual(fewest(table, free), needed_by_trying(table, free))

    def test_by_trying_all_smaller_tables_at_width_three(self):
        chance = random.Random(13)
        for _ in range(25):
            table = random_table(chance, 3, 3, GOALS)
            free = random_free(chance, 3, 2)
            self.assertEqual(fewest(table, free), needed_by_trying(table, free))

    def test_each_table_of_two_goals_at_width_one(self):
        for goals in product((None, "a", "hole"), repeat=3):
            rows = {stretch: goal for stretch, goal in zip(("", "0", "1"), goals) if goal is not None}
            for free in ([], ["0"], ["1"], [""], ["0", "1"]):
                table = Table(1, rows)
                self.assertEqual(fewest(table, free), needed_by_trying(table, free))

    def test_by_hand(self):
        self.assertEqual([fewest(SHORT), fewest(SHORT, ["1"]), fewest(SHORT, ["00", "10"]), fewest(SHORT, [""])],
                         [3, 2, 1, 0])
        self.assertEqual([fewest(Table(7)), fewest(Table(7, {"": "hole"})), fewest(Table(7, {"": "a"}))], [0, 0, 1])
        self.assertEqual(fewest(Table(2, {"0": "a", "1": "hole"})), 1)
        self.assertEqual(fewest(Table(2, {"0": "a", "1": "b"})), 2)

    def test_forty_rows_of_great_width(self):
        rows = {"01" * 30 + bits: "g" + "abcdefgh"[at % 8] * (1 + at // 8) for at, bits in enumerate(strings(6)[:40])}
        table = Table(100, rows)
        self.assertEqual([fewest(table), is_spare(table)], [40, True])
        self.assertEqual(len(spare(table)), 40)
        self.assertEqual(fewest(table, ["01" * 30 + "0"]), 8)
        self.assertEqual(fewest(table, ["01" * 30 + "1"]), 32)

    def test_wrong_values(self):
        for action in (fewest, spare, is_spare):
            self.check_free(lambda free: action(FIVE, free))
            self.check_new(action, FIVE, ["1", "00"])
        self.assertEqual([fewest(table=SHORT, free=()), is_spare(free=[], table=SHORT)], [3, False])
        self.check(TooMany, {"what": "free", "limit": 20}, fewest, FIVE, stretches_to(5))


class Spare(Case):
    def test_word_for_word(self):
        for table, free in cases(14, 400):
            rows = {}
            waiting = [("", "hole")]
            while waiting:
                stretch, inherited = waiting.pop()
                goals, _ = set_and_need(table, free, stretch)
                if goals is not None and inherited not in goals:
                    inherited = rows[stretch] = min(goals)
                if len(stretch) < table.width:
                    waiting.extend([(stretch + bit, inherited) for bit in "01"])
            told = spare(table, free)
            self.assertEqual(told, Table(table.width, rows))
            self.assertEqual(len(told), fewest(table, free))
            self.assertTrue(is_alike(table, told, free))
            self.assertIs(is_spare(table, free), len(table) == len(told))
            self.assertTrue(is_spare(told, free))
            self.assertEqual(spare(table, tuple(free[::-1])), told)

    def test_with_free_stretches(self):
        self.assertEqual(spare(SHORT), Table(2, {"": "a", "01": "b", "11": "b"}))
        self.assertEqual(spare(SHORT, ["1"]), Table(2, {"": "a", "01": "b"}))
        self.assertEqual(spare(SHORT, ["1", "00"]), Table(2, {"": "b"}))
        self.assertEqual(spare(SHORT, ["1", "0"]), Table(2))
        self.assertEqual(spare(SHORT, ["10", "01", "1"]), Table(2, {"": "a"}))
        self.assertEqual([is_spare(SHORT), is_spare(spare(SHORT)), is_spare(spare(SHORT), ["1"])], [False, True, False])

    def test_holes_and_great_widths(self):
        self.assertEqual(spare(Table(3, {"": "hole", "0": "a", "00": "hole"})), Table(3, {"01": "a"}))
        for width in (64, 99, 100):
            low, high = "0" * width, "1" * width
            table = Table(width, {"0": "a", "1": "a", low: "b", high: "hole", "01": "a"})
            self.assertEqual(spare(table), Table(width, {"": "a", low: "b", high: "hole"}))
            self.assertEqual(spare(table, [low]), Table(width, {"": "a", high: "hole"}))
            self.assertEqual([is_spare(table), is_spare(table - "01"), is_spare(spare(table))], [False, False, True])
