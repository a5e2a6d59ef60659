"""The examples of the document, word for word, and those of the README."""

import doctest
import os
import unittest

STAGE_1 = """
>>> from coverways.stretches import cells, common, first, number
>>> from coverways.tables import Table
>>> [number(100, "01") == 2 ** 98, first(4, "01"), common("0110", "0101"), cells(3, ["0", "00", "01"])]
[True, '0100', '01', [('', 4, '100'), ('0', 0, None), ('00', 2, '000'), ('01', 2, '010')]]
>>> table = Table(2, {"00": "a", "10": "a"}) + ("01", "b") + ("11", "b")
>>> [table("01"), table.row("11"), len(table), "0" in table, (table - "11")("11"), Table.of(2, ("", "a"), ("", "b"))]
['b', '11', 4, False, 'hole', Table(2, {'': 'b'})]
"""

OVERVIEW = """
>>> from coverways.tables import Table
>>> long = Table(2, {"00": "a", "10": "a", "01": "b", "11": "b"})
>>> short = Table(2, {"": "a", "01": "b", "11": "b"})
>>> [[table(address) for address in ("00", "01", "10", "11")] for table in (long, short)]
[['a', 'b', 'a', 'b'], ['a', 'b', 'a', 'b']]
"""


class Examples(unittest.TestCase):
    def check(self, text, name):
        example = doctest.DocTestParser().get_doctest(text, {}, name, None, 0)
        told = []
        results = doctest.DocTestRunner(verbose=False).run(example, out=told.append)
        self.assertEqual(results.failed, 0, "".join(told))
        self.assertGreater(results.attempted, 0)

    def test_stage_1(self):
        self.check(STAGE_1, "Stage 1: interface")

    def test_the_overview(self):
        self.check(OVERVIEW, "Overview")

    def test_the_readme(self):
        folder = os.path.dirname(os.path.dirname(os.path.abspath(__file__)))
        with open(os.path.join(folder, "README.md"), encoding="utf-8") as file:
            self.check(file.read(), "README")


if __name__ == "__main__":
    unittest.main()
