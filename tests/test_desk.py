"""Desks: changes and undoing, commands, several at once, and trials."""

import random

from coverways.desk import Desk, Trial, tried
from coverways.errors import (AlreadySo, CommandFailed, InvalidCommand, InvalidItems, InvalidRegion, InvalidWay,
                              InvalidWithdrawn, InvalidWord, NothingToUndo, Stranger, TooMany, UnknownHop, UnknownItem,
                              WrongMember)
from coverways.gathered import Gathered
from coverways.gathering import drop, gather
from coverways.items import Closed, Gatherer, Leaf
from coverways.withdrawals import is_safe
from tests.support import GATHERED_FIVE, WRONG_ELEMENTS, WRONG_LISTS, Case, random_gathered, strings

LOOSE = Gathered(3, [Leaf("p", "000", "k"), Leaf("r", "001", "k"), Leaf("q", "0", "m", {"k": "h", "h": "m"}),
                     Gatherer("g", "00", "k", ["r", "p"], {"h": "k"})])
OUTER = Gatherer("d", "", "h", ["q"], {})
REGION = ["m", "h", "k"]


def state(desk):
    """What can be seen of a desk."""
    return desk.gathered, desk.withdrawn, len(desk)


class Changes(Case):
    def test_a_new_desk(self):
        for desk in (Desk(LOOSE), Desk(gathered=LOOSE)):
            self.assertEqual([desk.gathered, desk.withdrawn, len(desk), desk["g"]], [LOOSE, [], 0, False])
            self.check(NothingToUndo, {}, desk.undo)

    def test_withdrawn(self):
        desk = Desk(LOOSE)
        desk.withdrawn = ["r", "p"]
        self.assertEqual(state(desk), (LOOSE, ["p", "r"], 1))
        self.assertIsNone(desk.only(("q",)))
        self.assertEqual(state(desk), (LOOSE, ["q"], 2))
        self.assertIsNone(desk.only(withdrawn=["q"]))
        self.assertEqual(state(desk), (LOOSE, ["q"], 3))
        desk.withdrawn = ()
        self.assertEqual(state(desk), (LOOSE, [], 4))
        for told in (["q"], ["q"], ["p", "r"], []):
            self.assertIsNone(desk.undo())
            self.assertEqual(desk.withdrawn, told)
        self.assertEqual(state(desk), (LOOSE, [], 0))

    def test_wrong_withdrawn(self):
        desk = Desk(GATHERED_FIVE)
        desk.only(["q"])

        def assign(value):
            desk.withdrawn = value

        for action in (desk.only, assign):
            for value in WRONG_LISTS:
                self.check(InvalidWithdrawn, {"position": None}, action, value)
            for wrong in WRONG_ELEMENTS + ["g", "x", "pp"]:
                self.check(InvalidWithdrawn, {"position": 0}, action, [wrong])
                self.check(InvalidWithdrawn, {"position": 2}, action, ("r", "p", wrong, "r"))
            self.check(InvalidWithdrawn, {"position": 1}, action, ["p", "p"])
        self.assertEqual(state(desk), (GATHERED_FIVE, ["q"], 1))
        self.check_withdrawn(Desk(GATHERED_FIVE).only)

    def test_lists_are_copied(self):
        desk = Desk(LOOSE)
        told = ["r", "p"]
        desk.withdrawn = told
        self.assertEqual(told, ["r", "p"])
        told.append("q")
        desk.withdrawn.append("q")
        self.assertEqual(desk.withdrawn, ["p", "r"])

    def test_leaves(self):
        desk = same = Desk(LOOSE)
        desk -= "r"
        desk -= "p"
        self.assertIs(desk, same)
        self.assertEqual(state(desk), (LOOSE, ["p", "r"], 2))
        desk += "r"
        self.assertIs(desk, same)
        self.assertEqual(state(desk), (LOOSE, ["p"], 3))
        for told in (["p", "r"], ["r"], []):
            desk.undo()
            self.assertEqual(desk.withdrawn, told)

    def test_wrong_leaves(self):
        desk = Desk(LOOSE)
        desk -= "p"

        def withdraw(name):
            held = desk
            held -= name

        def bring_back(name):
            held = desk
            held += name

        for action in (withdraw, bring_back):
            self.check_item(action, "k", "h")
        self.check(AlreadySo, {"value": "p"}, withdraw, "p")
        self.check(AlreadySo, {"value": "q"}, bring_back, "q")
        self.assertEqual(state(desk), (LOOSE, ["p"], 1))

    def test_hole_rows(self):
        desk = Desk(LOOSE)
        desk["g"] = True
        self.assertEqual([desk["g"], state(desk)], [True, (LOOSE.with_hole("g"), [], 1)])
        desk["g"] = True
        self.assertEqual([desk["g"], len(desk)], [True, 2])
        desk["g"] = False
        self.assertEqual([desk["g"], state(desk)], [False, (LOOSE, [], 3)])
        desk["g"] = False
        self.assertEqual(len(desk), 4)
        for told in (False, True, True, False):
            desk.undo()
            self.assertIs(desk["g"], told)
        self.assertEqual(state(desk), (LOOSE, [], 0))

    def test_wrong_hole_rows(self):
        desk = Desk(LOOSE)
        desk["g"] = True
        for value in (True, False, None, "hole"):
            self.check_item(lambda name: desk.__setitem__(name, value), "p", "q", "k")
        self.check_item(desk.__getitem__, "p", "q", "k")
        for value in (None, 0, 1, "", "hole", "True", b"1", [], [True], (False,), {}, object(), LOOSE):
            self.check(InvalidWord, {"value": value}, desk.__setitem__, "g", value)
        self.assertEqual(state(desk), (LOOSE.with_hole("g"), [], 1))
        with self.assertRaises(TypeError):
            iter(desk)

    def test_put_and_drop(self):
        desk = Desk(LOOSE)
        desk -= "p"
        self.assertIsNone(desk.put(OUTER, REGION))
        more = gather(LOOSE, OUTER, REGION)
        self.assertEqual(state(desk), (more, ["p"], 2))
        self.assertIsNone(desk.drop("g"))
        self.assertEqual(state(desk), (drop(more, "g"), ["p"], 3))
        self.assertIsNone(desk.drop(name="d"))
        self.assertIsNone(desk.put(region=("h", "m", "k"), item=OUTER))
        self.assertEqual(desk.gathered, drop(more, "g"))
        for told in (drop(LOOSE, "g"), drop(more, "g"), more, LOOSE):
            desk.undo()
            self.assertEqual(desk.gathered, told)
        self.assertEqual(state(desk), (LOOSE, ["p"], 1))

    def test_wrong_put_and_drop(self):
        desk = Desk(LOOSE)
        desk -= "p"
        self.check(InvalidItems, {"position": None}, desk.put, LOOSE["p"], None)
        self.check(UnknownItem, {"value": "s"}, desk.put, Gatherer("d", "", "h", ["s"]), None)
        self.check(InvalidRegion, {"position": None}, desk.put, OUTER, "hmk")
        self.check(InvalidRegion, {"position": 1}, desk.put, OUTER, ["h", "p"])
        self.check(InvalidWay, {"value": {}}, desk.put, Closed("d", "", "k", ["g"]), ["k"])
        self.check(Stranger, {"value": "g"}, desk.put, Closed("d", "0", "k", ["p"]), ["k"])
        self.check(InvalidItems, {"position": 4}, desk.put, Closed("d", "0", "h", ["q"]), REGION)
        self.check_item(desk.drop, "p", "h")
        desk.put(OUTER, REGION)
        self.assertEqual(len(desk), 2)
        chain = Desk(Gathered(2, [Leaf("p", "00", "k"), Gatherer("g", "0", "k", ["p"]), Closed("e", "", "k", ["g"])]))
        self.check(WrongMember, {"value": "e"}, chain.drop, "g")
        self.assertEqual(len(chain), 0)

    def test_beside_a_count_of_its_own(self):
        chance = random.Random(171)
        done = {}
        for _ in range(40):
            gathered = random_gathered(chance)
            desk = Desk(gathered)
            past, now = [], (gathered, [])
            for _ in range(25):
                kind, told = self.change(chance, desk, *now)
                done[kind] = done.get(kind, 0) + 1
                if told is None:
                    self.assertEqual(bool(past), True)
                    now = past.pop()
                elif told != "failed":
                    past.append(now)
                    now = told
                self.assertEqual(state(desk), (*now, len(past)))
            while past:
                desk.undo()
                self.assertEqual(state(desk), (*past.pop(), len(past)))
            self.check(NothingToUndo, {}, desk.undo)
        for kind in ("only", "withdraw", "back", "hole", "open", "drop", "put", "undo", "failed"):
            self.assertGreater(done[kind], 10)

    def change(self, chance, desk, gathered, withdrawn):
        """One change by a source of chance, and what has to be so behind it; None behind an undo."""
        kind = chance.choice(["only", "withdraw", "back", "hole", "open", "drop", "put", "undo", "undo"])
        leaves, names = gathered.leaves(), gathered.gatherers()
        if kind == "only":
            told = chance.sample(leaves, chance.randrange(len(leaves) + 1))
            desk.withdrawn = told
            return kind, (gathered, sorted(told))
        name = chance.choice(leaves)
        if kind == "withdraw" and name not in withdrawn:
            desk -= name
            return kind, (gathered, sorted([*withdrawn, name]))
        if kind == "back" and name in withdrawn:
            desk += name
            return kind, (gathered, [leaf for leaf in withdrawn if leaf != name])
        if kind == "undo" and len(desk):
            desk.undo()
            return kind, None
        if kind == "put" and "zz" not in gathered:
            for inner in gathered.names():
                item = Gatherer("zz", gathered[inner].stretch[:-1], gathered[inner].keeper, [inner])
                try:
                    desk.put(item, gathered.hops())
                except (WrongMember, Stranger, InvalidItems, TooMany, InvalidRegion):
                    continue
                return kind, (gather(gathered, item, gathered.hops()), withdrawn)
        if names and kind in ("hole", "open"):
            name = chance.choice(names)
            desk[name] = kind == "hole"
            return kind, (gathered.with_hole(name) if kind == "hole" else gathered.without_hole(name), withdrawn)
        if names and kind == "drop":
            name = chance.choice(names)
            if not any(gathered[other].members() == [name] for other in names):
                desk.drop(name)
                return kind, (drop(gathered, name), withdrawn)
        with self.assertRaises((UnknownItem, WrongMember)):
            desk.drop(chance.choice(["q1", *[name for name in names if any(gathered[other].members() == [name]
                                                                           for other in names)]]))
        return "failed", "failed"


class Commands(Case):
    def test_what_is_asked(self):
        desk = Desk(LOOSE)
        self.assertEqual([desk.do("way h 000"), desk.do("sent h 000"), desk.do("safe")], ["h k home", "g", "no"])
        self.assertEqual([desk.do("way k 111"), desk.do("sent k 111"), desk.do(command="way m 010")],
                         ["k hole", "none", "m home"])
        desk.withdrawn = ["p"]
        desk.undo()
        self.assertEqual([desk.do("way h 000"), len(desk)], ["h k home", 0])
        desk.withdrawn = ["p"]
        self.assertEqual([desk.do("way h 000"), desk.do("way k 000"), desk.do("sent k 000")], ["h k ring", "k h ring", "q"])
        desk["g"] = True
        self.assertEqual([desk.do("way h 000"), desk.do("sent k 000"), desk.do("safe"), len(desk)],
                         ["h k hole", "g", "yes", 2])

    def test_by_chance(self):
        chance = random.Random(172)
        for _ in range(40):
            gathered = random_gathered(chance)
            withdrawn = chance.sample(gathered.leaves(), chance.randrange(len(gathered.leaves()) + 1))
            desk = Desk(gathered)
            desk.only(withdrawn)
            self.assertEqual(desk.do("safe"), "yes" if is_safe(gathered) else "no")
            for address in strings(gathered.width):
                for hop in gathered.hops():
                    told = [*gathered.way(hop, address, withdrawn), gathered.end(hop, address, withdrawn)]
                    self.assertEqual(desk.do(f"way {hop} {address}"), " ".join(told))
                    self.assertEqual(desk.do(f"sent {hop} {address}"), gathered.sent_by(hop, address, withdrawn) or "none")
            self.assertEqual(len(desk), 1)

    def test_what_changes(self):
        desk = Desk(LOOSE)
        for command, told in (("withdraw p", (LOOSE, ["p"], 1)), ("withdraw q", (LOOSE, ["p", "q"], 2)),
                              ("back p", (LOOSE, ["q"], 3)), ("hole g", (LOOSE.with_hole("g"), ["q"], 4)),
                              ("hole g", (LOOSE.with_hole("g"), ["q"], 5)), ("open g", (LOOSE, ["q"], 6)),
                              ("undo", (LOOSE.with_hole("g"), ["q"], 5)), ("drop g", (drop(LOOSE, "g"), ["q"], 6)),
                              ("undo", (LOOSE.with_hole("g"), ["q"], 5))):
            self.assertEqual(desk.do(command), "done")
            self.assertEqual(state(desk), told)

    def test_wrong_commands(self):
        desk = Desk(LOOSE)
        desk -= "p"
        for wrong in [value for value in WRONG_ELEMENTS if value != ""] + [
                "", " ", "\n", "way", "way h", "way h 000 0", "way  h 000", "way h  000", " way h 000", "way h 000 ",
                "way h 000\n", "way h 00", "way h 0000", "way h 0a0", "way h -", "way home 000", "way H 000", "way abcdefg 000",
                "way 000 h", "way h,000", "Way h 000", "ways h 000", "sent", "sent h", "sent h 0", "sent h 000 x", "sent 000",
                "safe ", "safe h", "Safe", " safe", "saf", "withdraw", "withdraw ", "withdraw p r", "withdraw  p", "withdraw P",
                "withdraw p ", "withdraw 000", "withdraw home", "back", "back p q", "back all", "hole", "hole g True", "hole -",
                "hole none", "open", "open g g", "open G", "drop", "drop g p", "drop ring", "undo ", "undo 1", "undo p", "UNDO",
                "put d", "only p", "h 000", "p", ["safe"], ("undo",), ["way", "h", "000"], b"safe", b"way h 000", LOOSE, desk]:
            self.check(InvalidCommand, {"value": wrong}, desk.do, wrong)
        self.assertEqual(state(desk), (LOOSE, ["p"], 1))

    def test_errors_of_what_they_do(self):
        desk = Desk(LOOSE)
        desk -= "p"
        for word in ("way", "sent"):
            for hop in ("x", "p", "g"):
                self.check(UnknownHop, {"value": hop}, desk.do, f"{word} {hop} 000")
        for word in ("withdraw", "back"):
            for name in ("g", "k", "x"):
                self.check(UnknownItem, {"value": name}, desk.do, f"{word} {name}")
        self.check(AlreadySo, {"value": "p"}, desk.do, "withdraw p")
        self.check(AlreadySo, {"value": "q"}, desk.do, "back q")
        for word in ("hole", "open", "drop"):
            for name in ("p", "k", "x"):
                self.check(UnknownItem, {"value": name}, desk.do, f"{word} {name}")
        chain = Desk(Gathered(2, [Leaf("p", "00", "k"), Gatherer("g", "0", "k", ["p"]), Closed("e", "", "k", ["g"])]))
        self.check(WrongMember, {"value": "e"}, chain.do, "drop g")
        self.check(NothingToUndo, {}, chain.do, "undo")
        self.assertEqual([state(desk), len(chain)], [(LOOSE, ["p"], 1), 0])


class SeveralAtOnce(Case):
    def test_answers(self):
        desk = Desk(LOOSE)
        self.assertEqual(desk.do_all(), [])
        self.assertEqual(desk.do_all("withdraw p", "way h 000", "hole g", "way h 000", "undo", "safe"),
                         ["done", "h k ring", "done", "h k hole", "done", "no"])
        self.assertEqual(state(desk), (LOOSE, ["p"], 1))
        self.assertEqual(desk.do_all("undo", "withdraw r", "withdraw q"), ["done"] * 3)
        self.assertEqual(state(desk), (LOOSE, ["q", "r"], 2))

    def test_one_that_fails(self):
        desk = Desk(LOOSE)
        desk.do_all("withdraw p", "hole g")
        before = state(desk)
        for cause, attributes, wrong in ((InvalidCommand, {"value": "way h"}, "way h"), (InvalidCommand, {"value": 7}, 7),
                                         (UnknownHop, {"value": "x"}, "way x 000"), (AlreadySo, {"value": "p"}, "withdraw p"),
                                         (UnknownItem, {"value": "g"}, "back g"), (UnknownItem, {"value": "p"}, "hole p")):
            for ahead, behind in (([], []), ([], ["undo"]), (["safe"], []), (["open g", "withdraw q", "way k 000"], ["safe"]),
                                  (["withdraw r", "undo", "undo", "open g"], [None])):
                with self.assertRaises(CommandFailed) as caught:
                    desk.do_all(*ahead, wrong, *behind)
                self.assertEqual(vars(caught.exception), {"position": len(ahead)})
                self.assertIs(type(caught.exception), CommandFailed)
                self.assertIs(type(caught.exception.__cause__), cause)
                self.assertEqual(vars(caught.exception.__cause__), attributes)
                self.assertEqual(state(desk), before)
        desk.undo()
        self.assertEqual(state(desk), (LOOSE, ["p"], 1))

    def test_errors_of_each_branch(self):
        chain = Desk(Gathered(2, [Leaf("p", "00", "k"), Gatherer("g", "0", "k", ["p"]), Closed("e", "", "k", ["g"])]))
        for cause, wrong in ((NothingToUndo, "undo"), (WrongMember, "drop g"), (UnknownItem, "drop p"), (InvalidCommand, "")):
            with self.assertRaises(CommandFailed) as caught:
                chain.do_all("withdraw p", "undo", wrong)
            self.assertEqual([type(caught.exception.__cause__), caught.exception.position, len(chain)], [cause, 2, 0])


class Trials(Case):
    def test_the_desk_is_as_it_was(self):
        desk = Desk(LOOSE)
        desk.do_all("withdraw p", "hole g")
        before = state(desk)
        with Trial(desk) as held:
            self.assertIs(held, desk)
            held.do_all("open g", "withdraw q", "drop g")
            self.assertEqual(state(desk), (drop(LOOSE, "g"), ["p", "q"], 5))
        self.assertEqual(state(desk), before)
        with Trial(desk=desk) as held:
            held.undo()
            held.undo()
            held.only(["r"])
        self.assertEqual(state(desk), before)
        desk.undo()
        self.assertEqual(state(desk), (LOOSE, ["p"], 1))

    def test_without_a_name_and_without_a_change(self):
        desk = Desk(LOOSE)
        with Trial(desk):
            desk.put(OUTER, REGION)
        with Trial(desk):
            pass
        self.assertEqual(state(desk), (LOOSE, [], 0))

    def test_errors_go_on(self):
        desk = Desk(LOOSE)
        desk -= "r"
        with self.assertRaises(AlreadySo):
            with Trial(desk) as held:
                held -= "p"
                held -= "p"
        with self.assertRaises(KeyError):
            with Trial(desk) as held:
                held["g"] = True
                raise KeyError("x")
        self.assertEqual(state(desk), (LOOSE, ["r"], 1))

    def test_one_within_another(self):
        desk = Desk(LOOSE)
        desk -= "p"
        with Trial(desk) as held:
            held -= "q"
            with Trial(held) as inner:
                inner["g"] = True
                inner.undo()
                inner.undo()
                inner.undo()
                self.assertEqual(state(desk), (LOOSE, [], 0))
            self.assertEqual(state(desk), (LOOSE, ["p", "q"], 2))
            with self.assertRaises(NothingToUndo):
                with Trial(held) as inner:
                    inner.do_all("undo", "undo")
                    inner.undo()
            self.assertEqual(state(desk), (LOOSE, ["p", "q"], 2))
            held.undo()
        self.assertEqual(state(desk), (LOOSE, ["p"], 1))

    def test_one_that_is_used_again(self):
        desk = Desk(LOOSE)
        trial = Trial(desk)
        for name in ("p", "q"):
            desk -= name
            before = state(desk)
            with trial as held:
                held.do("withdraw r")
                with trial:
                    held.do("back r")
                self.assertEqual(held.withdrawn, sorted([*before[1], "r"]))
            self.assertEqual(state(desk), before)

    def test_tried(self):
        desk = Desk(LOOSE)
        desk -= "p"

        def action(held):
            held["g"] = True
            return held.do_all("way h 000", "withdraw q", "safe")

        self.assertEqual(tried(desk, action), ["h k hole", "done", "yes"])
        self.assertEqual(tried(action=lambda held: held, desk=desk), desk)
        self.assertEqual(state(desk), (LOOSE, ["p"], 1))
        self.assertIsNone(tried(desk, lambda held: held.undo()))
        self.assertEqual(tried(desk, lambda held: tried(held, action) + [len(held)]), ["h k hole", "done", "yes", 1])
        for wrong, kind in (("withdraw p", AlreadySo), ("way x 000", UnknownHop), (None, InvalidCommand)):
            with self.assertRaises(kind):
                tried(desk, lambda held: [held.do("undo"), held.do("withdraw p"), held.do("hole g"), held.do(wrong)])
            self.assertEqual(state(desk), (LOOSE, ["p"], 1))
        with self.assertRaises(CommandFailed):
            tried(desk, lambda held: held.do_all("hole g", "hole"))
        self.assertEqual(state(desk), (LOOSE, ["p"], 1))
