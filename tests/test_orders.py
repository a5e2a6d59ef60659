"""Safe orders of changes, families that show that there is none, and hops that are ahead."""

import random
from itertools import combinations, permutations, product

from coverways.errors import InvalidHops, InvalidWord, NoOrder, OtherHops, OtherWidth, TooMany
from coverways.nets import Net
from coverways.orders import (ahead, family, first_bad, first_order, how_many_orders, is_family, is_good, is_order,
                              mixed)
from coverways.tables import Table
from tests.support import HOPS, WRONG_ELEMENTS, WRONG_LISTS, Case, random_table, strings

OLD = Net({"x": Table(1, {"0": "y", "1": "home"}), "y": Table(1, {"0": "home", "1": "x"})})
NEW = Net({"x": Table(1, {"0": "home", "1": "y"}), "y": Table(1, {"0": "x", "1": "home"})})
PART = Net({"x": Table(1, {"": "home"}), "y": Table(1, {"": "x"})})
FIVE = Net({"x": Table(5, {"": "y"}), "y": Table(5), "z": Table(5, {"0": "z", "": "x"})})
WRONG_WORDS = WRONG_ELEMENTS + ["", "hole", "Home", "home ", "rings", "all", "hom", b"home", ["home"], ("ring",), FIVE]


def two_nets(chance, most_hops=3, most_width=2, most_rows=3):
    """Two nets of one width with the same hops, by a source of chance."""
    hops = chance.sample(HOPS, chance.randrange(1, most_hops + 1))
    width = chance.randrange(1, most_width + 1)
    goals = (*hops, "home", "home", "hole")
    return [Net({hop: random_table(chance, width, most_rows, goals) for hop in hops}) for _ in (0, 1)]


def two_chains(chance, many, width=1):
    """Two nets of so many hops, in which each address passes all hops, in sequences by a source of chance."""
    tables = [{hop: {} for hop in HOPS[:many]} for _ in (0, 1)]
    for rows, address in product(tables, strings(width)):
        hops = chance.sample(HOPS[:many], many)
        for hop, goal in zip(hops, [*hops[1:], "home"]):
            rows[hop][address] = goal
    return [Net({hop: Table(width, rows[hop]) for hop in rows}) for rows in tables]


def nets_by_chance(seed, many):
    """So many tuples of two nets, some of which have safe orders, and some of which have none."""
    chance = random.Random(seed)
    for at in range(many):
        if at % 2:
            yield two_nets(chance, chance.choice([2, 3, 3, 4]))
        else:
            yield two_chains(chance, chance.choice([2, 3, 4]), chance.choice([1, 2]))


def mixed_by_words(old, new, hops):
    return Net({hop: (new if hop in hops else old)[hop] for hop in old.hops()})


def bad_by_words(old, new, hops, word):
    """All tuples (address, hop) against it that the hops are good."""
    net = mixed_by_words(old, new, hops)
    told = []
    for address, hop in product(strings(old.width), old.hops()):
        ends = old.end(hop, address), new.end(hop, address)
        if word == "home" and ends == ("home", "home") and net.end(hop, address) != "home":
            told.append((address, hop))
        if word == "ring" and "ring" not in ends and net.end(hop, address) == "ring":
            told.append((address, hop))
    return told


def parts_of(hops):
    """All parts of the hops, as tuples."""
    return [part for many in range(len(hops) + 1) for part in combinations(hops, many)]


def orders_by_words(old, new, word):
    """All safe orders, sorted."""
    good = [set(part) for part in parts_of(old.hops()) if not bad_by_words(old, new, part, word)]
    return [list(order) for order in permutations(old.hops())
            if all(set(order[:many]) in good for many in range(len(order) + 1))]


class AllSequences(Case):
    def test_good_hops(self):
        chance = random.Random(141)
        found = {True: 0, False: 0}
        for _ in range(200):
            old, new = two_nets(chance)
            for word, part in product(("home", "ring"), parts_of(old.hops())):
                bad = bad_by_words(old, new, part, word)
                hops = list(part)
                chance.shuffle(hops)
                self.assertIs(is_good(old, new, hops, word), not bad)
                self.assertEqual(first_bad(old, new, tuple(hops), word), bad[0] if bad else None)
                self.assertEqual(mixed(old, new, hops), mixed_by_words(old, new, part))
                found[not bad] += 1
            self.assertEqual([is_good(old, new, []), is_good(old, new, old.hops(), "ring")], [True, True])
        self.assertGreater(min(found.values()), 50)

    def test_orders(self):
        found = {True: 0, False: 0}
        for old, new in nets_by_chance(142, 100):
            for word in ("home", "ring"):
                orders = orders_by_words(old, new, word)
                found[len(orders) > 0] += 1
                self.assertEqual(first_order(old, new, word), orders[0] if orders else None)
                self.assertEqual(how_many_orders(old, new, word), len(orders))
                for order in permutations(old.hops()):
                    self.assertIs(is_order(old, new, list(order), word), list(order) in orders)
                    self.assertIs(is_order(old, new, order, word), list(order) in orders)
                self.check_family(old, new, word, orders)
                self.check_ahead(old, new, word, orders)
        self.assertGreater(min(found.values()), 30)

    def check_family(self, old, new, word, orders):
        """That there is just either a safe order or a family."""
        told = family(old, new, word)
        if orders:
            self.assertIsNone(told)
            return
        self.assertTrue(is_family(old, new, told, word))
        self.assertTrue(all(hops == sorted(hops) for hops in told))
        sets = [set(hops) for hops in told]
        self.assertIn(set(), sets)
        self.assertNotIn(set(old.hops()), sets)
        for hops in told:
            self.assertEqual(bad_by_words(old, new, hops, word), [])
            for hop in old.hops():
                if {*hops, hop} not in sets:
                    self.assertNotEqual(bad_by_words(old, new, [*hops, hop], word), [])

    def check_ahead(self, old, new, word, orders):
        if not orders:
            self.check(NoOrder, {}, ahead, old, new, word)
            return
        pairs = [(one, other) for one, other in product(old.hops(), repeat=2) if one != other]
        told = [(one, other) for one, other in pairs if all(order.index(one) < order.index(other) for order in orders)]
        self.assertEqual(ahead(old, new, word), told)

    def test_each_family_of_two_or_three_hops(self):
        chance = random.Random(143)
        right = 0
        for many in [2] * 20 + [3] * 8:
            old, new = two_chains(chance, many, 2)
            parts = parts_of(old.hops())
            for word in ("home", "ring"):
                good = {part: not bad_by_words(old, new, part, word) for part in parts}
                for choice in product((False, True), repeat=len(parts)):
                    some = [part for part, chosen in zip(parts, choice) if chosen]
                    told = () in some and tuple(old.hops()) not in some and all(good[part] for part in some)
                    told = told and all(further in some or not good[further] for part in some
                                        for further in parts if set(part) < set(further) and len(further) == len(part) + 1)
                    chance.shuffle(some)
                    self.assertIs(is_family(old, new, [list(part) for part in some], word), told)
                    right += told
        self.assertGreater(right, 20)


class Known(Case):
    def test_by_hand(self):
        self.assertEqual([is_good(OLD, NEW, ["y"]), first_bad(OLD, NEW, ["y"]), first_bad(OLD, NEW, ["x"])],
                         [False, ("0", "x"), ("1", "x")])
        self.assertEqual([first_order(OLD, NEW), how_many_orders(OLD, NEW), family(OLD, NEW)], [None, 0, [[]]])
        self.assertEqual([first_order(OLD, PART), how_many_orders(OLD, PART), ahead(OLD, PART), family(OLD, PART)],
                         [["x", "y"], 1, [("x", "y")], None])
        self.assertEqual([first_order(OLD, OLD), how_many_orders(OLD, OLD), ahead(OLD, OLD)], [["x", "y"], 2, []])
        self.check(NoOrder, {}, ahead, OLD, NEW)
        self.check(NoOrder, {}, ahead, OLD, NEW, word="ring")
        self.assertEqual(mixed(OLD, NEW, ["y"]), Net({"x": OLD["x"], "y": NEW["y"]}))
        self.assertEqual(mixed(hops=(), new=NEW, old=OLD), OLD)

    def test_words_are_unlike(self):
        # When y alone has changed, x leads to it, and it leads nowhere: no "home", but no ring either.
        reached = Net({"x": Table(1, {"": "y"}), "y": Table(1, {"": "home"})})
        lost = Net({"x": Table(1, {"": "home"}), "y": Table(1)})
        self.assertEqual([first_bad(reached, lost, ["y"]), first_bad(reached, lost, ["y"], "ring")], [("0", "x"), None])
        self.assertEqual([first_order(reached, lost), first_order(reached, lost, "ring")], [["x", "y"], ["x", "y"]])
        self.assertEqual([how_many_orders(reached, lost), how_many_orders(reached, lost, "ring")], [1, 2])
        self.assertEqual([ahead(reached, lost), ahead(reached, lost, "ring")], [[("x", "y")], []])
        self.assertEqual([is_order(reached, lost, ["y", "x"]), is_order(reached, lost, ["y", "x"], "ring")], [False, True])
        # What ends in a hole in the old net may end as it likes, but may not ring.
        away = Net({"x": Table(1, {"": "y"}), "y": Table(1, {"": "hole"})})
        back = Net({"x": Table(1, {"": "home"}), "y": Table(1, {"": "x"})})
        self.assertEqual([first_bad(away, back, ["y"], "ring"), first_bad(away, back, ["y"], word="home")],
                         [("0", "x"), None])
        self.assertEqual([how_many_orders(away, back), first_order(away, back, "ring"), ahead(away, back, "ring")],
                         [2, ["x", "y"], [("x", "y")]])
        # What rings in one of the nets, may ring.
        ring = Net({"x": Table(1, {"": "y"}), "y": Table(1, {"": "x"})})
        self.assertEqual([how_many_orders(ring, back, "ring"), how_many_orders(back, ring, "ring")], [2, 2])

    def test_six_hops_and_great_widths(self):
        # Each hop goes over from the chain a, b, .., z to the chain the other way round.
        for width in (90, 99, 100):
            old = Net({hop: Table(width, {"": goal}) for hop, goal in zip(HOPS, [*HOPS[1:], "home"])})
            new = Net({hop: Table(width, {"": goal}) for hop, goal in zip(HOPS, ["home", *HOPS[:-1]])})
            self.assertEqual([first_order(old, new), how_many_orders(old, new)], [list(HOPS), 1])
            self.assertEqual(ahead(old, new, "ring"), list(combinations(HOPS, 2)))
            self.assertEqual([first_bad(old, new, ["b"]), first_bad(old, new, ["a", "c"], "ring")],
                             [("0" * width, "a"), ("0" * width, "b")])
            self.assertEqual([family(old, new), is_order(old, new, HOPS), is_order(old, new, HOPS[::-1])],
                             [None, True, False])
            # At the last address of all, the chain is the other way round from the beginning.
            last = "1" * width
            split = [Net({hop: net[hop] + (last, other[hop][""]) for hop in HOPS}) for net, other in ((old, new), (new, old))]
            self.assertEqual([first_bad(*split, ["a"]), first_bad(*split, ["z"])], [(last, "a"), ("0" * width, "a")])
            self.assertEqual([first_order(*split), first_order(*split, "ring"), family(*split)], [None, None, [[]]])
            self.assertEqual(first_order(old, Net({hop: old[hop] + (last, new[hop][""]) for hop in HOPS})), list(HOPS))

    def test_no_order_at_six_hops(self):
        width = 100
        tables = {hop: Table(width, {"": "home"}) for hop in HOPS}
        old = Net({**tables, "x": Table(width, {"0": "y", "1": "home"}), "y": Table(width, {"0": "home", "1": "x"})})
        new = Net({**tables, "x": Table(width, {"0": "home", "1": "y"}), "y": Table(width, {"0": "x", "1": "home"})})
        told = family(old, new)
        self.assertEqual([first_order(old, new), how_many_orders(old, new, "ring"), len(told)], [None, 0, 16])
        self.assertTrue(is_family(old, new, told))
        self.assertTrue(is_family(old, new, told[::-1], "ring"))
        for at in range(len(told)):
            self.assertFalse(is_family(old, new, told[:at] + told[at + 1:]))

    def test_seven_hundred_and_twenty_orders(self):
        net = Net({hop: Table(95, {"": "home", "0": "hole"}) for hop in HOPS})
        other = Net({hop: Table(95, {"": "home", "1": "hole"}) for hop in HOPS})
        self.assertEqual([how_many_orders(net, other), ahead(net, other), first_order(net, other)], [720, [], list(HOPS)])


class Families(Case):
    NETS = (Net({**{hop: OLD[hop] for hop in "xy"}, "z": Table(1)}), Net({**{hop: NEW[hop] for hop in "xy"}, "z": Table(1)}))

    def test_what_is_right(self):
        for value in ([[]], [()], ([],), ((),)):
            self.assertIs(is_family(OLD, NEW, value), True)
        for value in ([[], ["z"]], (("z",), ())):
            self.assertIs(is_family(*self.NETS, value), True)
        self.assertTrue(is_family(word="ring", value=[[]], new=NEW, old=OLD))

    def test_what_is_wrong_in_one_place(self):
        for value in ([], (), [[], []], [[], ()], [["z"]], [[], ["z"], ["z"]], [[], ["z"], ("z",)], [[]], [[], ["z"], ["x"]],
                      [[], ["z"], ["y"]], [[], ["z"], ["x", "z"]], [[], ["z"], ["x", "y", "z"]], [[], ["z", "z"]],
                      [[], ["z"], ["q"]], [[], ["z"], [None]], [[], ["z"], None], [[], "z"], [[], ["z"], "x"], [[], [["z"]]],
                      [[], ["z"], 0], [[], {"z": 1}], [None], [""], [0], [False], [[], ["home"]]):
            self.assertIs(is_family(*self.NETS, value), False)

    def test_lists_in_it_are_sorted(self):
        nets = [Net({**{hop: net[hop] for hop in "xy"}, "b": Table(1), "z": Table(1)}) for net in self.NETS]
        told = family(*nets)
        self.assertTrue(is_family(*nets, told))
        self.assertIn(["b", "z"], told)
        self.assertFalse(is_family(*nets, [["z", "b"] if hops == ["b", "z"] else hops for hops in told]))

    def test_other_kinds(self):
        for value in WRONG_LISTS + WRONG_ELEMENTS + ["[[]]", {(): 1}, OLD, {"": []}]:
            if value not in ([], ()):
                self.assertIs(is_family(OLD, NEW, value), False)
            self.assertIs(is_family(OLD, OLD, value), False)
        self.assertFalse(is_family(OLD, PART, [[]]))
        self.assertFalse(is_family(OLD, PART, [[], ["x"]]))


class Orders(Case):
    def test_other_kinds(self):
        for value in WRONG_LISTS + WRONG_ELEMENTS + [[], (), ["x"], ["y"], ["x", "x"], ["x", "y", "x"], ["x", "y", "z"],
                                                     ["x", None], "xy", {"x": 1, "y": 2}, [["x"], ["y"]], OLD, ["y", "x"],
                                                     ["x", "q"], ["x", "home"]]:
            self.assertIs(is_order(OLD, PART, value), False)
        for value in (["x", "y"], ("x", "y")):
            self.assertIs(is_order(OLD, PART, value), True)
            self.assertIs(is_order(OLD, NEW, value), False)
        self.assertTrue(is_order(word="ring", value=("y", "x"), new=OLD, old=OLD))


class WrongValues(Case):
    ACTIONS = ((mixed, ["x"]), (is_good, ["x"]), (first_bad, ["x"]), (first_order,), (how_many_orders,), (family,), (ahead,),
               (is_order, ["x", "y"]), (is_family, [[]]))

    def test_other_widths_and_hops(self):
        wide = Net({"x": Table(2), "y": Table(2)})
        more = Net({"x": Table(1), "y": Table(1), "z": Table(1)})
        for action, *values in self.ACTIONS:
            self.check(OtherWidth, {"one": 1, "other": 2}, action, OLD, wide, *values)
            self.check(OtherWidth, {"one": 2, "other": 1}, action, wide, more, *values)
            self.check(OtherHops, {"one": ["x", "y"], "other": ["x", "y", "z"]}, action, OLD, more, *values)
            self.check(OtherHops, {"one": ["x", "y", "z"], "other": ["x", "y"]}, action, more, OLD, *values)
        for action in (mixed, is_good, first_bad):
            self.check(OtherWidth, {"one": 1, "other": 2}, action, OLD, wide, None)
            self.check(OtherHops, {"one": ["x", "y"], "other": ["x", "y", "z"]}, action, OLD, more, None)

    def test_hops(self):
        for action in (mixed, is_good, first_bad):
            for value in WRONG_LISTS + ["x", {"x": 1}, FIVE]:
                self.check(InvalidHops, {"position": None}, action, FIVE, FIVE, value)
            for wrong in WRONG_ELEMENTS + ["", "q", "home", "xy", ["x"], ("x",), {"x": 1}, Table(1)]:
                self.check(InvalidHops, {"position": 0}, action, FIVE, FIVE, [wrong])
                self.check(InvalidHops, {"position": 2}, action, FIVE, FIVE, ("z", "x", wrong, "x"))
            self.check(InvalidHops, {"position": 1}, action, FIVE, FIVE, ["x", "x"])
            self.check(InvalidHops, {"position": 3}, action, FIVE, FIVE, ("z", "x", "y", "z", None))
        for action in (is_good, first_bad):
            self.check(InvalidHops, {"position": 0}, action, FIVE, FIVE, ["q"], "hole")

    def test_words(self):
        for (action, *values), word in product(self.ACTIONS[1:], WRONG_WORDS):
            self.check(InvalidWord, {"value": word}, action, OLD, PART, *values, word)
            self.check(InvalidWord, {"value": word}, action, OLD, PART, *values, word=word)
            self.check(OtherWidth, {"one": 1, "other": 5}, action, OLD, FIVE, *values, word)
        for action in (is_order, is_family):
            self.check(InvalidWord, {"value": "hole"}, action, OLD, PART, None, "hole")

    def test_too_many_rows_together(self):
        # 40 and 30 in each net, but 40 and 31, or 40 and 40, if the table with more rows counts.
        def table(many):
            return Table(6, {bits: "home" for bits in strings(6)[:many]})

        old = Net({"x": table(40), "y": table(30)})
        self.assertEqual([how_many_orders(old, Net({"x": table(30), "y": table(30)})), len(mixed(old, old, ["x"]))], [2, 2])
        self.assertTrue(is_order(old, Net({"x": table(0), "y": table(30)}), ["y", "x"]))
        for new in (Net({"x": table(39), "y": table(31)}), Net({"x": table(30), "y": table(40)})):
            for one, other in ((old, new), (new, old)):
                for action, *values in self.ACTIONS:
                    self.check(TooMany, {"what": "rows", "limit": 70}, action, one, other, *values)
                    if action is not mixed:
                        self.check(InvalidWord, {"value": "hole"}, action, one, other, *values, "hole")
                self.check(InvalidHops, {"position": 0}, mixed, one, other, ["q"])
                self.check(InvalidHops, {"position": 1}, is_good, one, other, ["x", "x"])
                for value in (None, [], ["x"], "xy"):
                    self.check(TooMany, {"what": "rows", "limit": 70}, is_order, one, other, value)
                    self.check(TooMany, {"what": "rows", "limit": 70}, is_family, one, other, value)

    def test_no_order_is_told_ahead_of_too_many_rows(self):
        rows = {"1" + bits: "home" for bits in strings(6)[:36]}
        old = Net({"x": Table(7, {**rows, "00": "y", "01": "home"}), "y": Table(7, {"00": "home", "01": "x"})})
        new = Net({"x": Table(7, {"00": "home", "01": "y"}), "y": Table(7, {**rows, "00": "x", "01": "home"})})
        self.check(NoOrder, {}, ahead, old, new)
        self.check(InvalidWord, {"value": "hole"}, ahead, old, new, "hole")
        self.check(TooMany, {"what": "rows", "limit": 70}, family, old, new)

    def test_results_are_new(self):
        self.check_new(mixed, OLD, NEW, ["x"])
        self.check_new(first_bad, OLD, NEW, ["x"])
        self.check_new(first_order, OLD, PART)
        self.check_new(family, OLD, NEW)
        self.check_new(ahead, OLD, PART)
        self.check_new(is_order, OLD, PART, ["x", "y"])
        self.check_new(is_family, OLD, NEW, [[]])
