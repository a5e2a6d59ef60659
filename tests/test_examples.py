"""The examples of the document, word for word, and those of the README."""

import doctest
import os
import unittest

STAGE_1 = """
>>> from coverways.stretches import cells, common, first, number
>>> from coverways.tables import Table
>>> [number(100, "01") == 2 ** 98, first(4, "01"), common("0110", "0101"), cells(3, ["0", "00", "01"])]
[True, '0100', '01', [('', 4, '100'), ('0', 0, None), ('00', 2, '000'), ('01', 2, '010')]]
>>> table = Table(2, {"00": "a", "10": "a"}) + ("01", "b") + ("11", "b")
>>> [table("01"), table.row("11"), len(table), "0" in table, (table - "11")("11"), Table.of(2, ("", "a"), ("", "b"))]
['b', '11', 4, False, 'hole', Table(2, {'': 'b'})]
"""

STAGE_2 = """
>>> from coverways.beside import first_unlike, is_alike, joined, numbers, within
>>> short = Table(2, {"": "a", "01": "b", "11": "b"})
>>> [is_alike(table, short), first_unlike(table, short - "01"), numbers(short, ["1"]), within(short, "1"), within(short, "0") == within(short, "1")]
[True, '01', {'a': 1, 'b': 1}, Table(1, {'': 'a', '1': 'b'}), True]
>>> joined(Table(1, {"": "a"}), Table(1))
Table(2, {'0': 'a'})
"""

STAGE_3 = """
>>> from coverways.packs import is_pack, path
>>> from coverways.spare import fewest, need_at, set_at, spare
>>> [set_at(table, ""), need_at(table, "0"), fewest(table), spare(table), fewest(table, ["1"]), spare(table, ["1"])]
[['a', 'b'], 1, 3, Table(2, {'': 'a', '01': 'b', '11': 'b'}), 2, Table(2, {'': 'a', '01': 'b'})]
>>> [path(2, "11", "10"), is_pack(table, [(None, "00"), (None, "01"), ("11", "10")]), is_pack(table, [("00", "01"), ("01", "00")])]
[[('11', 'up'), ('10', 'down')], True, False]
"""

STAGE_4 = """
>>> from coverways.fates import fates, first_astray, rings
>>> from coverways.nets import Net
>>> net = Net({"x": Table(2, {"": "y"}), "y": Table(2, {"0": "home", "": "x", "11": "hole"})})
>>> [net.way("x", "10"), net.fate("y", "10"), net.end("x", "11"), rings(net), first_astray(net), fates(net, "x")]
[['x', 'y'], ('ring', 'x'), 'hole', [('', ('x', 'y'))], ('10', 'x'), {('hole', 'y'): 1, ('home', 'y'): 2, ('ring', 'x'): 1}]
"""

STAGE_5 = """
>>> from coverways.late import Late
>>> from coverways.moments import ends, is_ring_paper, is_safe_late, longest
>>> late = Late(Net({"x": Table(1, {"0": "home", "": "y"}), "y": Table(1, {"0": "x", "": "home"})}), {"x": [""], "y": [""]})
>>> [late.chain("x", "0"), late.heads("y", "0"), ends(late, "y", "0"), is_safe_late(late), late.at([("y", "0")]).end("y", "0")]
[['0', ''], ['x', 'home'], ['home', 'ring'], False, 'home']
>>> [is_ring_paper(late, ("0", ["x", "y"], [("x", "0")])), longest(late.made_firm("x", "0"))]
[True, 2]
"""

OVERVIEW = """
>>> from coverways.tables import Table
>>> long = Table(2, {"00": "a", "10": "a", "01": "b", "11": "b"})
>>> short = Table(2, {"": "a", "01": "b", "11": "b"})
>>> [[table(address) for address in ("00", "01", "10", "11")] for table in (long, short)]
[['a', 'b', 'a', 'b'], ['a', 'b', 'a', 'b']]
>>> from coverways.packs import pack
>>> from coverways.spare import fewest
>>> [fewest(long), fewest(short), len(pack(long))]
[3, 3, 3]
"""


class Examples(unittest.TestCase):
    def check(self, text, name):
        example = doctest.DocTestParser().get_doctest(text, {}, name, None, 0)
        told = []
        results = doctest.DocTestRunner(verbose=False).run(example, out=told.append)
        self.assertEqual(results.failed, 0, "".join(told))
        self.assertGreater(results.attempted, 0)

    def test_stage_1(self):
        self.check(STAGE_1, "Stage 1: interface")

    def test_stage_2(self):
        self.check(STAGE_1 + STAGE_2, "Stage 2: interface")

    def test_stage_3(self):
        self.check(STAGE_1 + STAGE_2 + STAGE_3, "Stage 3: interface")

    def test_stage_4(self):
        self.check(STAGE_1 + STAGE_4, "Stage 4: interface")

    def test_stage_5(self):
        self.check(STAGE_1 + STAGE_4 + STAGE_5, "Stage 5: interface")

    def test_the_overview(self):
        self.check(OVERVIEW, "Overview")

    def test_the_readme(self):
        folder = os.path.dirname(os.path.dirname(os.path.abspath(__file__)))
        with open(os.path.join(folder, "README.md"), encoding="utf-8") as file:
            self.check(file.read(), "README")


if __name__ == "__main__":
    unittest.main()
