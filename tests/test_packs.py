"""Paths through borders, and packs."""

import random
from itertools import combinations, product

from coverways.errors import InvalidAddress, InvalidFree, InvalidWidth, TooMany
from coverways.packs import is_pack, pack, path
from coverways.spare import fewest
from coverways.tables import Table
from tests.support import (WRONG_ADDRESSES, WRONG_ELEMENTS, WRONG_LISTS, WRONG_WIDTHS, Case, held, random_free,
                           random_stretch, random_table, stretches_to, strings)

GOALS = ("a", "b", "c", "home", "hole")
SHORT = Table(2, {"00": "a", "10": "a", "01": "b", "11": "b"})
FIVE = Table(5, {"": "a", "01": "b", "0110": "home"})
PACK = [(None, "00"), (None, "01"), ("11", "10")]


def holders(address):
    """The stretches that hold the address, shorter ones first."""
    return [address[:length] for length in range(len(address) + 1)]


def path_by_words(begin, end):
    """The path between addresses, word for word."""
    if begin is None:
        return [(stretch, "down") for stretch in holders(end)]
    ups = [(stretch, "up") for stretch in holders(begin)[::-1] if stretch not in holders(end)]
    return ups + [(stretch, "down") for stretch in holders(end) if stretch not in holders(begin)]


def is_pack_by_words(table, pairs, free):
    """Whether a list of tuples of addresses, or None and an address, is a pack, pair against pair."""
    goals = [("hole" if begin is None else table(begin), table(end)) for begin, end in pairs]
    if any(one == other for one, other in goals):
        return False
    if any(address is not None and held(free, address) for pair in pairs for address in pair):
        return False
    for one, other in combinations(pairs, 2):
        there, back = dict(path_by_words(*one)), dict(path_by_words(*other))
        shared = [stretch for stretch in there if stretch in back]
        if any(there[stretch] != back[stretch] for stretch in shared):
            return False
        if shared and table(one[1]) == table(other[1]):
            return False
    return True


class Paths(Case):
    def test_word_for_word(self):
        for width in (1, 2, 3):
            for begin, end in product([None, *strings(width)], strings(width)):
                self.assertEqual(path(width, begin, end), path_by_words(begin, end))

    def test_by_hand(self):
        self.assertEqual(path(2, "11", "10"), [("11", "up"), ("10", "down")])
        self.assertEqual(path(2, "11", "01"), [("11", "up"), ("1", "up"), ("0", "down"), ("01", "down")])
        self.assertEqual(path(2, None, "10"), [("", "down"), ("1", "down"), ("10", "down")])
        self.assertEqual(path(2, "10", "10"), [])
        self.assertEqual(path(width=1, begin="0", end="1"), [("0", "up"), ("1", "down")])

    def test_great_widths(self):
        for width in (64, 99, 100):
            low, high = "0" * width, "1" * width
            told = path(width, low, high)
            self.assertEqual([len(told), told[0], told[width - 1], told[width], told[-1]],
                             [2 * width, (low, "up"), ("0", "up"), ("1", "down"), (high, "down")])
            self.assertEqual(path(width, low, low[:-1] + "1"), [(low, "up"), (low[:-1] + "1", "down")])
            self.assertEqual(len(path(width, None, high)), width + 1)

    def test_wrong_values(self):
        for value in WRONG_WIDTHS:
            self.check(InvalidWidth, {"value": value}, path, value, 0, 0)
        for wrong in WRONG_ADDRESSES:
            if wrong is not None:
                self.check(InvalidAddress, {"value": wrong}, path, 5, wrong, "0")
            self.check(InvalidAddress, {"value": wrong}, path, 5, None, wrong)
            self.check(InvalidAddress, {"value": wrong}, path, 5, "00000", wrong)
        self.check_new(path, 2, None, "00")


class Packs(Case):
    def check_pack(self, table, free):
        told = pack(table, free)
        self.assertIsInstance(told, list)
        self.assertEqual(len(told), fewest(table, free))
        self.assertTrue(is_pack(table, told, free))
        # Pair against pair takes long where paths are long.
        self.assertTrue(table.width > 8 or is_pack_by_words(table, told, free))

    def test_as_many_as_the_fewest_rows(self):
        chance = random.Random(21)
        for _ in range(600):
            width = chance.randrange(1, 7)
            goals = GOALS[:chance.randrange(1, 6)]
            self.check_pack(random_table(chance, width, 20, goals), random_free(chance, width, chance.choice((0, 9))))

    def test_each_choice_of_goals_at_width_two(self):
        for goals in product(GOALS[1:], repeat=4):
            table = Table(2, dict(zip(strings(2), goals)))
            for free in ([], ["01"], ["1"], ["00", "10"], ["0", "11"], [""], ["0", "1"]):
                self.check_pack(table, free)

    def test_great_widths(self):
        chance = random.Random(22)
        for width in (64, 99, 100):
            for _ in range(4):
                table = random_table(chance, width, 40, GOALS)
                near = random_stretch(chance, width)
                for at in range(0, 39 - len(table), 2):
                    table = table + ((near[:at] + random_stretch(chance, 20))[:width], chance.choice(GOALS))
                self.check_pack(table, [])
                self.check_pack(table, random_free(chance, width, 20))
        rows = {"01" * 30 + bits: "g" + "abcdefgh"[at % 8] * (1 + at // 8) for at, bits in enumerate(strings(6)[:40])}
        self.check_pack(Table(100, rows), ())
        self.assertEqual(len(pack(Table(100, rows))), 40)

    def test_nothing_to_tell(self):
        self.assertEqual([pack(Table(3)), pack(SHORT, [""]), pack(SHORT, ["1", "0"])], [[], [], []])
        self.assertEqual(len(pack(Table(100, {"": "a"}))), 1)

    def test_wrong_values(self):
        self.check_free(lambda free: pack(FIVE, free))
        self.check_free(lambda free: is_pack(FIVE, [], free))
        self.check_free(lambda free: is_pack(FIVE, None, free))
        self.check_new(pack, FIVE, ["1"])
        self.check_new(is_pack, SHORT, PACK, [])
        self.assertEqual(len(pack(free=[], table=SHORT)), 3)
        self.check(InvalidFree, {"position": None}, is_pack, SHORT, object(), None)
        self.check(TooMany, {"what": "free", "limit": 20}, is_pack, FIVE, object(), stretches_to(5))


class IsPack(Case):
    def test_word_for_word(self):
        chance = random.Random(23)
        found = 0
        for _ in range(3000):
            width = chance.randrange(1, 4)
            table = random_table(chance, width, 5, GOALS)
            free = random_free(chance, width, chance.choice((0, 0, 2)))
            pairs = []
            for _ in range(chance.randrange(4)):
                begin = chance.choice([None, *strings(width)])
                pairs.append((begin, chance.choice(strings(width))))
            expected = is_pack_by_words(table, pairs, free)
            found = found + expected
            self.assertIs(is_pack(table, pairs, free), expected)
            self.assertIs(is_pack(table, tuple(pairs[::-1]), tuple(free)), expected)
        self.assertGreater(found, 500)

    def test_each_pair_of_pairs_at_width_two(self):
        table = Table(2, {"00": "a", "01": "b", "10": "hole", "11": "a"})
        pairs = list(product([None, *strings(2)], strings(2)))
        for one, other in product(pairs, pairs):
            self.assertIs(is_pack(table, [one, other]), is_pack_by_words(table, [one, other], []))

    def test_by_hand(self):
        self.assertIs(is_pack(SHORT, PACK), True)
        self.assertIs(is_pack(SHORT, []), True)
        self.assertIs(is_pack(SHORT, ()), True)
        self.assertTrue(is_pack(SHORT, tuple(PACK)))
        self.assertTrue(is_pack(table=SHORT, value=PACK[1:], free=["00"]))
        self.assertIs(is_pack(SHORT, [("00", "01"), ("01", "00")]), False)
        # Not used, equal goals, a goal that is that of None, the same goal at one border.
        self.assertFalse(is_pack(SHORT, PACK, ["00"]))
        self.assertFalse(is_pack(SHORT, PACK, ["11"]))
        self.assertFalse(is_pack(SHORT, [("00", "10")]))
        self.assertFalse(is_pack(SHORT, [("00", "00")]))
        self.assertFalse(is_pack(SHORT - "00", [(None, "00")]))
        self.assertFalse(is_pack(SHORT, [(None, "00"), (None, "10")]))
        self.assertFalse(is_pack(SHORT, PACK + [(None, "11")]))

    def test_turned_round(self):
        self.assertTrue(is_pack(SHORT, [("11", "10"), ("01", "00")]))
        self.assertTrue(is_pack(SHORT, [("10", "11"), ("01", "00")]))
        self.assertTrue(is_pack(SHORT, [(None, "01"), ("11", "10"), (None, "00")]))
        self.assertFalse(is_pack(SHORT, [(None, "00"), (None, "01"), ("10", "11"), ("11", "10")]))
        self.assertFalse(is_pack(SHORT, [("00", None), ("00", "01")]))
        self.assertFalse(is_pack(SHORT, [("00", None)]))

    def test_tuples_twice(self):
        for pair in PACK:
            self.assertTrue(is_pack(SHORT, [pair]))
            self.assertFalse(is_pack(SHORT, [pair, pair]))
            self.assertFalse(is_pack(SHORT, [*PACK, pair]))

    def test_other_kinds(self):
        for value in WRONG_LISTS + [SHORT, {("11", "10"): 1}, {("11", "10")}, "ab"]:
            self.assertIs(is_pack(SHORT, value), False)
        for wrong in WRONG_ELEMENTS + [[None, "00"], ("00",), (None, "00", "01"), ("00", "01", "a"), "01", (None, None),
                                       ("0", "1"), (True, "00"), (0, "00"), ("", "00"), ([], "00"), ("00", ["01"]),
                                       (None, "000"), (None, "0"), (("00",), "01"), (False, "01"), (None, True)]:
            self.assertIs(is_pack(SHORT, [wrong]), False)
            self.assertIs(is_pack(SHORT, [*PACK, wrong]), False)
            self.assertIs(is_pack(SHORT, (wrong, *PACK)), False)

    def test_all_free(self):
        self.assertTrue(is_pack(SHORT, [], [""]))
        self.assertFalse(is_pack(SHORT, [("00", "01")], ["1", "0"]))
