"""The examples of the document, word for word, and those of the README."""

import doctest
import os
import unittest

FOLDER = os.path.dirname(os.path.dirname(os.path.abspath(__file__)))

STAGE_1 = """
>>> from coverways.stretches import cells, common, first, number
>>> from coverways.tables import Table
>>> [number(100, "01") == 2 ** 98, first(4, "01"), common("0110", "0101"), cells(3, ["0", "00", "01"])]
[True, '0100', '01', [('', 4, '100'), ('0', 0, None), ('00', 2, '000'), ('01', 2, '010')]]
>>> table = Table(2, {"00": "a", "10": "a"}) + ("01", "b") + ("11", "b")
>>> [table("01"), table.row("11"), len(table), "0" in table, (table - "11")("11"), Table.of(2, ("", "a"), ("", "b"))]
['b', '11', 4, False, 'hole', Table(2, {'': 'b'})]
"""

STAGE_2 = """
>>> from coverways.beside import first_unlike, is_alike, joined, numbers, within
>>> short = Table(2, {"": "a", "01": "b", "11": "b"})
>>> [is_alike(table, short), first_unlike(table, short - "01"), numbers(short, ["1"]), within(short, "1"), within(short, "0") == within(short, "1")]
[True, '01', {'a': 1, 'b': 1}, Table(1, {'': 'a', '1': 'b'}), True]
>>> joined(Table(1, {"": "a"}), Table(1))
Table(2, {'0': 'a'})
"""

STAGE_3 = """
>>> from coverways.packs import is_pack, path
>>> from coverways.spare import fewest, need_at, set_at, spare
>>> [set_at(table, ""), need_at(table, "0"), fewest(table), spare(table), fewest(table, ["1"]), spare(table, ["1"])]
[['a', 'b'], 1, 3, Table(2, {'': 'a', '01': 'b', '11': 'b'}), 2, Table(2, {'': 'a', '01': 'b'})]
>>> [path(2, "11", "10"), is_pack(table, [(None, "00"), (None, "01"), ("11", "10")]), is_pack(table, [("00", "01"), ("01", "00")])]
[[('11', 'up'), ('10', 'down')], True, False]
"""

STAGE_4 = """
>>> from coverways.fates import fates, first_astray, rings
>>> from coverways.nets import Net
>>> net = Net({"x": Table(2, {"": "y"}), "y": Table(2, {"0": "home", "": "x", "11": "hole"})})
>>> [net.way("x", "10"), net.fate("y", "10"), net.end("x", "11"), rings(net), first_astray(net), fates(net, "x")]
[['x', 'y'], ('ring', 'x'), 'hole', [('', ('x', 'y'))], ('10', 'x'), {('hole', 'y'): 1, ('home', 'y'): 2, ('ring', 'x'): 1}]
"""

STAGE_5 = """
>>> from coverways.late import Late
>>> from coverways.moments import ends, is_ring_paper, is_safe_late, longest
>>> late = Late(Net({"x": Table(1, {"0": "home", "": "y"}), "y": Table(1, {"0": "x", "": "home"})}), {"x": [""], "y": [""]})
>>> [late.chain("x", "0"), late.heads("y", "0"), ends(late, "y", "0"), is_safe_late(late), late.at([("y", "0")]).end("y", "0")]
[['0', ''], ['x', 'home'], ['home', 'ring'], False, 'home']
>>> [is_ring_paper(late, ("0", ["x", "y"], [("x", "0")])), longest(late.made_firm("x", "0"))]
[True, 2]
"""

STAGE_6 = r"""
>>> from coverways.gathered import Gathered
>>> from coverways.items import Closed, Gatherer, Leaf
>>> from coverways.withdrawals import is_safe, least_sets, patterns
>>> p, r, q = Leaf("p", "000", "k"), Leaf("r", "001", "k"), Leaf("q", "0", "m", {"k": "h", "h": "m"})
>>> loose = Gathered(3, [p, r, q, Gatherer("g", "00", "k", ["r", "p"], {"h": "k"})])
>>> [loose.sent_by("h", "000"), loose.end("h", "000"), loose.sent_by("k", "000", ["p"]), loose.way("h", "000", ["p"]), loose.end("h", "000", ["p"])]
['g', 'home', 'q', ['h', 'k'], 'ring']
>>> [is_safe(loose), is_safe(loose.with_hole("g")), least_sets(loose), patterns(loose, "000"), loose.with_hole("g")["g"].told()]
[False, True, [['g']], [(), ('g',), ('g', 'p'), ('g', 'p', 'q'), ('g', 'q'), ('q',)], 'holed gatherer of 2 g 00 at k']
"""

STAGE_7 = r"""
>>> from coverways.gathering import drop, gather, rows_saved
>>> from coverways.served import first_straying, late_of, served
>>> wide = Gathered(3, [Leaf("p", "000", "k", {"h": "k"}), Leaf("r", "001", "k", {"h": "k"}), q])
>>> near = gather(wide, Closed("g", "00", "k", ["p", "r"], {"h": "k"}), ["k"])
>>> [near["p"].way(), rows_saved(wide, near), served(near, ["p"]).fate("h", "000"), drop(near, "g")["p"].sees(), first_straying(near)]
[{}, 0, ('hole', 'k'), ['k'], None]
"""

STAGE_8 = r"""
>>> from coverways.orders import ahead, family, first_order, is_good
>>> old = Net({"x": Table(1, {"0": "y", "1": "home"}), "y": Table(1, {"0": "home", "1": "x"})})
>>> new = Net({"x": Table(1, {"0": "home", "1": "y"}), "y": Table(1, {"0": "x", "1": "home"})})
>>> [is_good(old, new, ["y"]), first_order(old, new), family(old, new), first_order(old, old.with_table("y", Table(1, {"": "x", "0": "home"})))]
[False, None, [[]], ['x', 'y']]
>>> part = Net({"x": Table(1, {"": "home"}), "y": Table(1, {"": "x"})})
>>> [first_order(old, part), ahead(old, part)]
[['x', 'y'], [('x', 'y')]]
"""

STAGE_9 = r"""
>>> from coverways.desk import Desk, Trial
>>> from coverways.texts import text_of
>>> desk = Desk(loose)
>>> [desk.do("withdraw p"), desk.do("way h 000"), desk.do_all("hole g", "way h 000", "safe"), desk["g"], desk.withdrawn, len(desk)]
['done', 'h k ring', ['done', 'h k hole', 'yes'], True, ['p'], 2]
>>> [text_of(Table(2, {"": "a", "01": "hole"})), text_of(near).split("\n")[:6]]
['table 2\nrow - a\nrow 01 hole\n', ['gathered 3', 'gatherer g 00 k hole', 'member p', 'member r', 'way h k', 'leaf p 000 k']]
"""

OVERVIEW = """
>>> from coverways.tables import Table
>>> long = Table(2, {"00": "a", "10": "a", "01": "b", "11": "b"})
>>> short = Table(2, {"": "a", "01": "b", "11": "b"})
>>> [[table(address) for address in ("00", "01", "10", "11")] for table in (long, short)]
[['a', 'b', 'a', 'b'], ['a', 'b', 'a', 'b']]
>>> from coverways.packs import pack
>>> from coverways.spare import fewest
>>> [fewest(long), fewest(short), len(pack(long))]
[3, 3, 3]
"""


class Examples(unittest.TestCase):
    def check(self, text, name):
        example = doctest.DocTestParser().get_doctest(text, {}, name, None, 0)
        told = []
        results = doctest.DocTestRunner(verbose=False).run(example, out=told.append)
        self.assertEqual(results.failed, 0, "".join(told))
        self.assertGreater(results.attempted, 0)

    def test_stage_1(self):
        self.check(STAGE_1, "Stage 1: interface")

    def test_stage_2(self):
        self.check(STAGE_1 + STAGE_2, "Stage 2: interface")

    def test_stage_3(self):
        self.check(STAGE_1 + STAGE_2 + STAGE_3, "Stage 3: interface")

    def test_stage_4(self):
        self.check(STAGE_1 + STAGE_4, "Stage 4: interface")

    def test_stage_5(self):
        self.check(STAGE_1 + STAGE_4 + STAGE_5, "Stage 5: interface")

    def test_stage_6(self):
        self.check(STAGE_6, "Stage 6: interface")

    def test_stage_7(self):
        self.check(STAGE_6 + STAGE_7, "Stage 7: interface")

    def test_stage_8(self):
        self.check(STAGE_1 + STAGE_4 + STAGE_8, "Stage 8: interface")

    def test_stage_9(self):
        self.check(STAGE_1 + STAGE_6 + STAGE_7 + STAGE_9, "Stage 9: interface")

    def test_all_stages_one_after_the_other(self):
        self.check(STAGE_1 + STAGE_2 + STAGE_3 + STAGE_4 + STAGE_5 + STAGE_6 + STAGE_7 + STAGE_8 + STAGE_9, "All stages")

    def test_the_overview(self):
        self.check(OVERVIEW, "Overview")

    def test_the_readme(self):
        with open(os.path.join(FOLDER, "README.md"), encoding="utf-8") as file:
            self.check(file.read(), "README")


if __name__ == "__main__":
    unittest.main()
