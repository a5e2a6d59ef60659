"""Texts word for word, read back, and wrong in one line."""

import random

from coverways.beside import joined, within
from coverways.errors import (InvalidItems, InvalidMembers, InvalidText, InvalidWay, TooMany, UnknownGoal, UnknownItem,
                              WrongMember)
from coverways.gathered import Gathered
from coverways.gathering import drop, gather
from coverways.items import Closed, Gatherer, Leaf
from coverways.late import Late
from coverways.nets import Net
from coverways.orders import mixed
from coverways.served import late_of, served
from coverways.spare import spare
from coverways.tables import Table
from coverways.texts import bytes_of, read_gathered, read_late, read_net, read_table, text_of
from tests.support import WRONG_ELEMENTS, Case, random_gathered, random_late, random_net, random_table, strings

TABLE = Table(2, {"01": "hole", "": "a", "1": "home"})
NET = Net({"y": Table(2, {"0": "home", "": "x"}), "x": Table(2, {"11": "y"}), "z": Table(2)})
LATE = Late(NET, {"y": ["0"], "x": ["11"]})
GATHERED = Gathered(3, [Leaf("p", "000", "k"), Leaf("r", "001", "k"), Leaf("q", "", "m", {"k": "h", "h": "m"}),
                        Closed("g", "00", "k", ["r", "p"], {"h": "k"}), Gatherer("d", "0", "k", ["g"])])

TABLE_TEXT = "table 2\nrow - a\nrow 01 hole\nrow 1 home\n"
NET_TEXT = "net 2\nhop x\nrow 11 y\nhop y\nrow - x\nrow 0 home\nhop z\n"
LATE_TEXT = "late 2\nhop x\nfirm 11 y\nhop y\nrow - x\nfirm 0 home\nhop z\n"
GATHERED_TEXT = ("gathered 3\ngatherer d 0 k open\nmember g\ngatherer g 00 k hole\nmember p\nmember r\nway h k\n"
                 "leaf p 000 k\nleaf q - m\nway h m\nway k h\nleaf r 001 k\n")

READERS = {"table": read_table, "net": read_net, "late": read_late, "gathered": read_gathered}
TEXTS = ((read_table, TABLE_TEXT, TABLE), (read_net, NET_TEXT, NET), (read_late, LATE_TEXT, LATE),
         (read_gathered, GATHERED_TEXT, GATHERED))


def lines_of(text):
    return text.split("\n")[:-1]


def text_by(lines):
    return "".join(line + "\n" for line in lines)


class Told(Case):
    def test_word_for_word(self):
        for _, text, entry in TEXTS:
            self.assertEqual(text_of(entry), text)
            self.assertEqual(bytes_of(entry), text.encode("ascii"))
            self.assertIs(type(bytes_of(entry)), bytes)
        self.assertEqual(text_of(entry=Table(100)), "table 100\n")
        self.assertEqual(bytes_of(entry=Table(1, {"1": "home"})), b"table 1\nrow 1 home\n")
        self.assertEqual(text_of(Net({"x": Table(1)})), "net 1\nhop x\n")
        self.assertEqual(text_of(Late(Net({"x": Table(1, {"": "hole"})}))), "late 1\nhop x\nrow - hole\n")
        self.assertEqual(text_of(Gathered(1, [Leaf("p", "", "p")])), "gathered 1\nleaf p - p\n")

    def test_read_back(self):
        for read, text, entry in TEXTS:
            self.check_same(read(text), entry)
            self.check_same(read(text=text), entry)

    def check_same(self, told, entry):
        self.assertEqual(told, entry)
        self.assertEqual([type(told), repr(told), text_of(told)], [type(entry), repr(entry), text_of(entry)])

    def test_by_chance(self):
        chance = random.Random(151)
        for _ in range(150):
            for entry in (random_table(chance, chance.choice([1, 5, 99, 100]), 40, ("a", "home", "hole", "abcdef")),
                          random_net(chance, 6, 6, 10), random_late(chance, 6, 6, 10), random_gathered(chance)):
                text = text_of(entry)
                self.check_same(READERS[text.split(" ")[0]](text), entry)

    def test_what_other_functions_make(self):
        table = (Table(3, {"": "a"}) + ("111", "b") | Table(3, {"0": "c"})) - "111"
        wide = drop(drop(GATHERED, "d"), "g")
        entries = [table, spare(table), within(table, "0"), joined(table, table), ("01", "x") + table, Table.of(3, ("0", "a")),
                   NET.with_table("a", Table(2)), mixed(NET, NET, ["x"]), served(GATHERED, ["p"]), LATE.at([("y", "")]),
                   late_of(GATHERED), LATE.made_firm("y", ""), LATE.made_loose("x", "11"), wide, drop(GATHERED, "d"),
                   GATHERED.with_hole("d"), GATHERED.without_hole("g"), wide + Leaf("s", "1", "k"),
                   gather(wide, Closed("n", "00", "k", ["p", "r"]), ["k"])]
        for entry in entries:
            text = text_of(entry)
            self.check_same(READERS[text.split(" ")[0]](text), entry)

    def test_great_ones(self):
        table = Table(100, {"0" * 94 + bits: "abcdef" for bits in strings(6)[:40]})
        self.check_same(read_table(text_of(table)), table)
        net = Net({"x": table.of(100, *[(bits, "home") for bits in table.rows()]), "y": Table(100, {"1": "x"})})
        self.check_same(read_net(text_of(net)), net)
        self.check_same(read_late(text_of(Late(net))), Late(net))


class WrongInOneLine(Case):
    def wrong(self, read, line, text):
        self.check(InvalidText, {"line": line}, read, text)

    def test_no_strings(self):
        for read, text, entry in TEXTS:
            for wrong in [value for value in WRONG_ELEMENTS if not isinstance(value, str)] + [
                    entry, text.encode("ascii"), lines_of(text), tuple(lines_of(text)), [text]]:
                self.wrong(read, 1, wrong)

    def test_the_first_line(self):
        for (read, text, _), word in zip(TEXTS, ("table", "net", "late", "gathered")):
            rest = lines_of(text)[1:]
            for first in ("", " ", word, f"{word} ", f"{word} 0", f"{word} 101", f"{word} 02", f"{word} +2", f"{word} 2 ",
                          f"{word}  2", f" {word} 2", f"{word} 2 2", f"{word[:-1]} 2", f"{word}s 2", f"{word.upper()} 2",
                          f"{word} -1", f"{word} 1_0", f"{word} two", f"{word} 2.0", f"{word}2", "2", "row - a", f"2 {word}"):
                self.wrong(read, 1, text_by([first, *rest]))
            for other in ("table 2", "net 2", "late 2", "gathered 2"):
                if not other.startswith(word):
                    self.wrong(read, 1, text_by([other, *rest]))
            for wrong in ("", "\n", text[1:], "\n" + text, text_by(rest), word, f"{word} 2"):
                self.wrong(read, 1, wrong)

    def test_each_line_twice_or_changed(self):
        for read, text, _ in TEXTS:
            lines = lines_of(text)
            for at in range(1, len(lines)):
                self.wrong(read, at + 2, text_by([*lines[:at + 1], lines[at], *lines[at + 1:]]))
                for wrong in (lines[at] + " ", " " + lines[at], lines[at] + " x", "", lines[at].replace(" ", "  ", 1),
                              lines[at].split(" ")[0], lines[at].upper(), "rows" + lines[at][3:], lines[0],
                              lines[at].replace(" ", "_", 1), "x" + lines[at]):
                    self.wrong(read, at + 1, text_by([*lines[:at], wrong, *lines[at + 1:]]))
                    self.wrong(read, at + 1, text_by([*lines[:at], wrong]))

    def test_the_last_line_feed(self):
        for read, text, _ in TEXTS:
            many = len(lines_of(text))
            self.wrong(read, many, text[:-1])
            self.wrong(read, many + 1, text + "\n")
            self.wrong(read, many + 1, text + " ")
            self.wrong(read, many + 1, text + "row")
            self.wrong(read, many, text[:-1] + " \n")

    def test_words_of_rows(self):
        for read, ahead in ((read_table, ["table 3"]), (read_net, ["net 3", "hop x"]), (read_late, ["late 3", "hop x"])):
            for row in ("row 0", "row 0 home x", "row home", "row 0 ring", "row 0 all", "row 0 A", "row 0 abcdefg", "row 0 -",
                        "row  home", "row 2 home", "row 0000 home", "row - ", "row -- home", "row -0 home", "row 0- home",
                        "row 0 home ", "hop", "hop -", "hop home", "hop abcdefg", "hop x y", "member x", "leaf p 0 k", "way x y",
                        "Row 0 home", "row a 0", "gatherer g 0 k open", "table 3", "net 3"):
                self.wrong(read, len(ahead) + 1, text_by([*ahead, row]))
                self.wrong(read, len(ahead) + 2, text_by([*ahead, "row - x", row, "row 111 home"]))
            for other in ("0", "00", "01", "-"):
                self.wrong(read, len(ahead) + 2, text_by([*ahead, "row 01 x", f"row {other} x"]))
            read(text_by([*ahead, "row - x", "row 0 home", "row 00 hole", "row 000 x", "row 01 x", "row 1 x"]))
        for row in ("firm - home", "hop x"):
            self.wrong(read_table, 2, text_by(["table 3", row]))
        self.wrong(read_net, 3, text_by(["net 3", "hop x", "firm - home"]))
        self.assertEqual(read_late(text_by(["late 3", "hop x", "firm - home"])).firm(), {"x": [""]})
        self.wrong(read_late, 4, text_by(["late 3", "hop x", "firm 0 home", "row 0 home"]))
        self.wrong(read_late, 4, text_by(["late 3", "hop x", "row 0 home", "firm - home"]))
        self.wrong(read_late, 4, text_by(["late 3", "hop x", "row 0 home", "firm 0000 home"]))

    def test_hops(self):
        for read, word in ((read_net, "net"), (read_late, "late")):
            self.wrong(read, 2, f"{word} 2\n")
            self.wrong(read, 2, f"{word} 2\nrow - home\n")
            self.wrong(read, 2, f"{word} 2\nhop x")
            self.wrong(read, 3, f"{word} 2\nhop x\nhop x\n")
            self.wrong(read, 4, f"{word} 2\nhop x\nrow - home\nhop a\nrow - home\n")
            self.wrong(read, 5, f"{word} 2\nhop b\nrow - home\nhop x\nhop b\n")
            self.wrong(read, 3, f"{word} 2\nhop x\nhop X\n")
            read(f"{word} 2\nhop x\nrow 1 home\nhop xx\nrow 0 home\nrow 1 x\nhop y\n")

    def test_lines_that_lack_in_gathered_nets(self):
        self.wrong(read_gathered, 2, "gathered 2\n")
        self.wrong(read_gathered, 3, "gathered 2\ngatherer g 0 k open\n")
        self.wrong(read_gathered, 3, "gathered 2\ngatherer g 0 k open\nleaf p 00 k\n")
        self.wrong(read_gathered, 3, "gathered 2\ngatherer g 0 k open\nway h k\nmember p\nleaf p 00 k\n")
        self.wrong(read_gathered, 5, "gathered 2\ngatherer g 0 k open\nmember p\nway h k\nmember q\nleaf p 00 k\n")
        self.wrong(read_gathered, 3, "gathered 2\nleaf p 00 k\nmember q\n")
        self.wrong(read_gathered, 2, "gathered 2\nway h k\n")
        self.wrong(read_gathered, 2, "gathered 2\nmember h\n")
        self.wrong(read_gathered, 4, "gathered 2\nleaf p 00 k\nway h k\nmember q\n")

    def test_words_of_items(self):
        for item in ("leaf p 00", "leaf p 00 k open", "leaf p k", "leaf p 000 k", "leaf p 2 k", "leaf home 0 k", "leaf p 0 home",
                     "leaf p  k", "leaf p -", "leaf P 0 k", "leaf p 0 -", "gatherer p 0 k", "gatherer p 0 k closed",
                     "gatherer p 0 k home", "gatherer p 0 k open x", "gatherer p 000 k open", "gatherer abcdefg 0 k open",
                     "gatherer p 0 K open", "gatherer p 0 k OPEN", "row 0 home", "hop x", "item p 0 k", "holed p 0 k"):
            self.wrong(read_gathered, 2, text_by(["gathered 2", item]))
            self.wrong(read_gathered, 3, text_by(["gathered 2", "leaf a 1 k", item, "member q", "leaf q 00 k"]))
        for name in ("p", "o", "a"):
            self.wrong(read_gathered, 3, text_by(["gathered 2", "leaf p 0 k", f"leaf {name} 1 k"]))
            self.wrong(read_gathered, 4, text_by(["gathered 2", "leaf p 0 k", "way h k", f"gatherer {name} - k open", "member p"]))
        for member in ("member", "member q r", "member home", "member -", "member 0", "member p", "member o", "members q"):
            self.wrong(read_gathered, 4, text_by(["gathered 2", "gatherer g 0 k open", "member p", member, "leaf p 00 k"]))
        for way in ("way", "way y", "way y k k", "way y home", "way hole k", "way y Y", "way x k", "way b k", "way - k"):
            self.wrong(read_gathered, 4, text_by(["gathered 2", "leaf p 0 k", "way x k", way]))

    def test_errors_of_classes_come_behind_all_lines(self):
        rows = [f"row {bits} a" for bits in strings(6)[:41]]
        self.check(TooMany, {"what": "rows", "limit": 40}, read_table, text_by(["table 6", *rows]))
        self.wrong(read_table, 43, text_by(["table 6", *rows, "row"]))
        self.check(TooMany, {"what": "rows", "limit": 40}, read_net, text_by(["net 6", "hop x", "row - q", "hop y", *rows]))
        self.check(TooMany, {"what": "rows", "limit": 40}, read_late, text_by(["late 6", "hop x", *rows, "hop y", "row - q"]))
        self.check(UnknownGoal, {"value": "p"}, read_net, "net 2\nhop x\nrow 0 q\nhop y\nrow - p\n")
        self.check(UnknownGoal, {"value": "q"}, read_late, "late 2\nhop x\nfirm 0 q\n")
        self.wrong(read_net, 5, "net 2\nhop x\nrow 0 q\nhop y\nrow - \n")
        hops = [f"hop {letter}" for letter in "abcdefg"]
        self.check(TooMany, {"what": "hops", "limit": 6}, read_net, text_by(["net 6", *hops]))
        self.check(TooMany, {"what": "rows", "limit": 70}, read_net, text_by(
            ["net 6", "hop a", *rows[:36], "hop b", *rows[:36]]))

    def test_errors_of_gathered_nets_and_items(self):
        def told(*lines):
            return text_by(["gathered 3", *lines])

        ahead = ("gatherer g 0 k open", "member p")
        self.check(InvalidWay, {"value": {"k": "h"}}, read_gathered, told("leaf p 0 k", "way k h"))
        self.check(InvalidWay, {"value": {"x": "y", "y": "x"}}, read_gathered, told("leaf p 0 k", "way x y", "way y x"))
        self.check(InvalidWay, {"value": {"x": "h"}}, read_gathered, told(*ahead, "way x h", "leaf p 0 k", "way y q"))
        self.check(InvalidMembers, {"position": 0}, read_gathered, told("gatherer g 0 k open", "member g"))
        self.check(InvalidMembers, {"position": 1}, read_gathered,
                   told("leaf a 00 k", "gatherer g 0 k hole", "member a", "member g", "way k k"))
        self.check(InvalidItems, {"position": 1}, read_gathered, told(*ahead, "leaf p 0 k"))
        self.check(InvalidItems, {"position": 2}, read_gathered, told(*ahead, "leaf p 00 k", "leaf q 0 k"))
        self.check(UnknownItem, {"value": "p"}, read_gathered, told(*ahead, "leaf q 00 k"))
        self.check(WrongMember, {"value": "p"}, read_gathered, told(*ahead, "leaf p 00 x"))
        self.check(WrongMember, {"value": "p"}, read_gathered,
                   told(*ahead, "gatherer h - k open", "member p", "leaf p 00 k"))
        leaves = [f"leaf l{letter} {bits} k" for letter, bits in zip("abcdefg", strings(3))]
        self.check(TooMany, {"what": "leaves", "limit": 6}, read_gathered, told(*leaves))
        self.wrong(read_gathered, 9, told(*leaves, "leaf la 1 k"))
        self.wrong(read_gathered, 5, told("leaf p 0 k", "way k h", "leaf q 0 k", "leaf"))
