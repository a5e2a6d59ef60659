"""What several tests use."""

import unittest
from itertools import product

WRONG_WIDTHS = [None, True, False, 0, -1, 101, 10 ** 30, "", "1", b"1", [1], (1,), {1: 1}, object()]


def strings(length):
    """All bits of the length, sorted."""
    return ["".join(bits) for bits in product("01", repeat=length)]


class Case(unittest.TestCase):
    def check(self, kind, attributes, action, *values, **more):
        """That the action raises just this kind of error, with just these attributes."""
        with self.assertRaises(kind) as caught:
            action(*values, **more)
        self.assertIs(type(caught.exception), kind)
        told = vars(caught.exception)
        self.assertEqual(told, attributes)
        for name, value in attributes.items():
            # True is equal to 1, so the kinds of the values are compared, too.
            self.assertIs(type(told[name]), type(value))
