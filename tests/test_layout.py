"""Where the names of the interface stand, and what they take."""

import importlib
import inspect
import os
import unittest

import coverways
from coverways import errors, nets, tables

FUNCTIONS = {
    "stretches": {
        "is_width": "(value)",
        "is_bits": "(value)",
        "is_name": "(value)",
        "is_goal": "(value)",
        "is_address": "(width, value)",
        "is_stretch": "(width, value)",
        "number": "(width, stretch)",
        "first": "(width, stretch)",
        "last": "(width, stretch)",
        "common": "(one, other)",
        "cells": "(width, stretches)",
        "cell_of": "(width, stretches, address)",
    },
    "beside": {
        "is_used": "(width, free, address)",
        "used_number": "(width, free)",
        "numbers": "(table, free=())",
        "first_with": "(table, goal, free=())",
        "is_alike": "(one, other, free=())",
        "first_unlike": "(one, other, free=())",
        "unlike_number": "(one, other, free=())",
        "within": "(table, stretch)",
        "joined": "(zero, one)",
    },
    "spare": {
        "set_at": "(table, stretch, free=())",
        "need_at": "(table, stretch, free=())",
        "fewest": "(table, free=())",
        "spare": "(table, free=())",
        "is_spare": "(table, free=())",
    },
    "packs": {
        "path": "(width, begin, end)",
        "pack": "(table, free=())",
        "is_pack": "(table, value, free=())",
    },
    "fates": {
        "fates": "(net, hop)",
        "first_fated": "(net, hop, fate)",
        "rings": "(net)",
        "first_astray": "(net)",
        "farthest": "(net)",
        "is_same": "(one, other)",
        "first_other": "(one, other)",
    },
    "moments": {
        "is_safe_late": "(late)",
        "ranks": "(late)",
        "are_ranks": "(late, value)",
        "ring_paper": "(late)",
        "is_ring_paper": "(late, value)",
        "longest": "(late)",
        "ends": "(late, hop, address)",
        "sure_number": "(late, hop)",
    },
    "withdrawals": {
        "is_safe": "(gathered)",
        "round_paper": "(gathered)",
        "is_round_paper": "(gathered, value)",
        "patterns": "(gathered, address)",
        "safe_ranks": "(gathered)",
        "are_safe_ranks": "(gathered, value)",
        "ringing_number": "(gathered)",
        "falls": "(gathered, hop, address, withdrawn=())",
        "is_enough": "(gathered, names)",
        "least_sets": "(gathered)",
    },
    "served": {
        "served": "(gathered, withdrawn=())",
        "late_of": "(gathered)",
        "lying_number": "(gathered, withdrawn=())",
        "first_lying": "(gathered, withdrawn=())",
        "first_straying": "(gathered, withdrawn=())",
        "told_to": "(gathered, hop, withdrawn=())",
    },
    "gathering": {
        "gather": "(gathered, item, region)",
        "drop": "(gathered, name)",
        "rows_saved": "(one, other)",
        "same_ends": "(one, other)",
    },
    "orders": {
        "mixed": "(old, new, hops)",
        "is_good": "(old, new, hops, word='home')",
        "first_bad": "(old, new, hops, word='home')",
        "first_order": "(old, new, word='home')",
        "is_order": "(old, new, value, word='home')",
        "how_many_orders": "(old, new, word='home')",
        "family": "(old, new, word='home')",
        "is_family": "(old, new, value, word='home')",
        "ahead": "(old, new, word='home')",
    },
    "texts": {
        "text_of": "(entry)",
        "bytes_of": "(entry)",
        "read_table": "(text)",
        "read_net": "(text)",
        "read_late": "(text)",
        "read_gathered": "(text)",
    },
    "claims": {
        "is_claim": "(value)",
        "is_true": "(claim)",
        "paper_of": "(claim)",
        "is_paper": "(claim, value)",
    },
    "desk": {
        "tried": "(desk, action)",
    },
}

METHODS = {
    ("tables", "Table"): {
        "__init__": "(self, width, rows=None)",
        "of": "(width, *rows)",
        "rows": "(self)",
        "row": "(self, address)",
        "cells": "(self)",
        "__call__": "(self, address)",
    },
    ("nets", "Net"): {
        "__init__": "(self, tables)",
        "hops": "(self)",
        "cells": "(self)",
        "with_table": "(self, hop, table)",
        "way": "(self, hop, address)",
        "end": "(self, hop, address)",
        "fate": "(self, hop, address)",
        "__call__": "(self, hop, address)",
    },
    ("late", "Late"): {
        "__init__": "(self, net, firm=None)",
        "firm": "(self)",
        "loose": "(self)",
        "chain": "(self, hop, address)",
        "heads": "(self, hop, address)",
        "at": "(self, gone)",
        "made_firm": "(self, hop, stretch)",
        "made_loose": "(self, hop, stretch)",
    },
    ("items", "Item"): {
        "__init__": "(self, name, stretch, keeper, way=None)",
        "way": "(self)",
        "sees": "(self)",
        "told": "(self)",
    },
    ("items", "Leaf"): {
        "told": "(self)",
    },
    ("items", "Gatherer"): {
        "__init__": "(self, name, stretch, keeper, members, way=None)",
        "members": "(self)",
        "told": "(self)",
    },
    ("items", "Holed"): {
        "told": "(self)",
    },
    ("gathered", "Gathered"): {
        "__init__": "(self, width, items)",
        "names": "(self)",
        "hops": "(self)",
        "leaves": "(self)",
        "gatherers": "(self)",
        "cells": "(self)",
        "with_hole": "(self, name)",
        "without_hole": "(self, name)",
        "stands": "(self, name, withdrawn=())",
        "standing": "(self, withdrawn=())",
        "sent_by": "(self, hop, address, withdrawn=())",
        "way": "(self, hop, address, withdrawn=())",
        "end": "(self, hop, address, withdrawn=())",
    },
    ("desk", "Desk"): {
        "__init__": "(self, gathered)",
        "only": "(self, withdrawn)",
        "put": "(self, item, region)",
        "drop": "(self, name)",
        "undo": "(self)",
        "do": "(self, command)",
        "do_all": "(self, *commands)",
    },
    ("desk", "Trial"): {
        "__init__": "(self, desk)",
    },
}

SIGNS = {
    ("tables", "Table"): ["__getitem__", "__len__", "__contains__", "__add__", "__radd__", "__sub__", "__or__",
                          "__le__", "__ge__", "__eq__", "__repr__"],
    ("nets", "Net"): ["__getitem__", "__len__", "__contains__", "__eq__", "__repr__"],
    ("late", "Late"): ["__le__", "__ge__", "__eq__", "__repr__"],
    ("items", "Item"): ["__eq__", "__repr__"],
    ("items", "Leaf"): ["__repr__"],
    ("items", "Gatherer"): ["__repr__"],
    ("items", "Closed"): ["__repr__"],
    ("gathered", "Gathered"): ["__getitem__", "__len__", "__contains__", "__add__", "__eq__", "__repr__"],
    ("desk", "Desk"): ["__getitem__", "__setitem__", "__iadd__", "__isub__", "__len__"],
    ("desk", "Trial"): ["__enter__", "__exit__"],
}

PROPERTIES = {
    ("tables", "Table"): ["width"],
    ("nets", "Net"): ["width", "many_rows"],
    ("late", "Late"): ["net"],
    ("gathered", "Gathered"): ["width"],
    ("desk", "Desk"): ["gathered", "withdrawn"],
}


def class_of(place):
    file, name = place
    return getattr(importlib.import_module(f"coverways.{file}"), name)


class Layout(unittest.TestCase):
    def test_functions_are_defined_in_their_file(self):
        for file, told in FUNCTIONS.items():
            for name, parameters in told.items():
                function = getattr(importlib.import_module(f"coverways.{file}"), name)
                self.assertEqual(function.__module__, f"coverways.{file}")
                self.assertEqual(str(inspect.signature(function)), parameters, name)

    def test_methods_are_defined_in_the_class_itself(self):
        for place, told in METHODS.items():
            kind = class_of(place)
            self.assertEqual(kind.__module__, f"coverways.{place[0]}")
            for name, parameters in told.items():
                self.assertIn(name, vars(kind))
                self.assertEqual(str(inspect.signature(getattr(kind, name))), parameters, name)

    def test_signs_are_defined_in_the_class_itself(self):
        for place, names in SIGNS.items():
            for name in names:
                self.assertIn(name, vars(class_of(place)))

    def test_kinds_of_members(self):
        self.assertIsInstance(vars(tables.Table)["of"], staticmethod)
        for place, names in PROPERTIES.items():
            for name in names:
                self.assertIsInstance(vars(class_of(place))[name], property)
        self.assertEqual([tables.Table.MOST_ROWS, nets.Net.MOST_HOPS, nets.Net.MOST_ROWS], [40, 6, 70])

    def test_errors_are_defined_in_their_file(self):
        for value in vars(errors).values():
            if isinstance(value, type):
                self.assertEqual(value.__module__, "coverways.errors")

    def test_package_holds_files_of_python_alone(self):
        folder = os.path.dirname(coverways.__file__)
        names = [name for name in os.listdir(folder) if name != "__pycache__"]
        self.assertIn("__init__.py", names)
        for name in names:
            self.assertTrue(name.endswith(".py"), name)


if __name__ == "__main__":
    unittest.main()
