"""Where the names of the interface stand, and what they take."""

import inspect
import os
import unittest

import coverways
from coverways import errors, stretches, tables

FUNCTIONS = {
    "is_width": "(value)",
    "is_bits": "(value)",
    "is_name": "(value)",
    "is_goal": "(value)",
    "is_address": "(width, value)",
    "is_stretch": "(width, value)",
    "number": "(width, stretch)",
    "first": "(width, stretch)",
    "last": "(width, stretch)",
    "common": "(one, other)",
    "cells": "(width, stretches)",
    "cell_of": "(width, stretches, address)",
}

METHODS = {
    "__init__": "(self, width, rows=None)",
    "of": "(width, *rows)",
    "rows": "(self)",
    "row": "(self, address)",
    "cells": "(self)",
    "__call__": "(self, address)",
}

SIGNS = ["__getitem__", "__len__", "__contains__", "__add__", "__radd__", "__sub__", "__or__", "__le__", "__ge__",
         "__eq__", "__repr__"]


class Layout(unittest.TestCase):
    def test_functions_are_defined_in_their_file(self):
        for name, parameters in FUNCTIONS.items():
            function = getattr(stretches, name)
            self.assertEqual(function.__module__, "coverways.stretches")
            self.assertEqual(str(inspect.signature(function)), parameters, name)

    def test_methods_are_defined_in_the_class_itself(self):
        self.assertEqual(tables.Table.__module__, "coverways.tables")
        for name, parameters in METHODS.items():
            self.assertIn(name, vars(tables.Table))
            self.assertEqual(str(inspect.signature(getattr(tables.Table, name))), parameters, name)
        for name in SIGNS:
            self.assertIn(name, vars(tables.Table))

    def test_kinds_of_members(self):
        self.assertIsInstance(vars(tables.Table)["of"], staticmethod)
        self.assertIsInstance(vars(tables.Table)["width"], property)
        self.assertEqual(tables.Table.MOST_ROWS, 40)

    def test_errors_are_defined_in_their_file(self):
        for value in vars(errors).values():
            if isinstance(value, type):
                self.assertEqual(value.__module__, "coverways.errors")

    def test_package_holds_files_of_python_alone(self):
        folder = os.path.dirname(coverways.__file__)
        names = [name for name in os.listdir(folder) if name != "__pycache__"]
        self.assertIn("__init__.py", names)
        for name in names:
            self.assertTrue(name.endswith(".py"), name)


if __name__ == "__main__":
    unittest.main()
