"""The errors: their branches, their attributes, and how they are made."""

import unittest

from coverways import errors

BRANCHES = {
    "CoverError": ValueError,
    "MissingError": LookupError,
    "StateError": RuntimeError,
    "LimitError": ArithmeticError,
}

KINDS = {
    "CoverError": {
        "InvalidWidth": ["value"],
        "InvalidStretch": ["value"],
        "InvalidStretches": ["position"],
        "InvalidAddress": ["value"],
        "InvalidGoal": ["value"],
        "InvalidRows": ["value"],
        "InvalidFree": ["position"],
        "InvalidTables": ["value"],
        "InvalidFirm": ["value"],
        "InvalidGone": ["position"],
        "InvalidName": ["value"],
        "InvalidHop": ["value"],
        "InvalidWay": ["value"],
        "InvalidMembers": ["position"],
        "InvalidItems": ["position"],
        "InvalidWithdrawn": ["position"],
        "InvalidRegion": ["position"],
        "InvalidHops": ["position"],
        "InvalidWord": ["value"],
        "InvalidText": ["line"],
        "InvalidClaim": ["value"],
        "InvalidCommand": ["value"],
    },
    "MissingError": {
        "UnknownStretch": ["value"],
        "UnknownHop": ["value"],
        "UnknownGoal": ["value"],
        "UnknownItem": ["value"],
    },
    "StateError": {
        "OtherWidth": ["one", "other"],
        "OtherHops": ["one", "other"],
        "WrongMember": ["value"],
        "Stranger": ["value"],
        "NoOrder": [],
        "AlreadySo": ["value"],
        "NothingToUndo": [],
        "CommandFailed": ["position"],
    },
    "LimitError": {
        "TooMany": ["what", "limit"],
    },
}

ODD_VALUES = [None, True, 0, -7, "", "text", b"bytes", (), [1, [2]], {"a": {}}, {1, 2}, object(), ValueError("x")]


def kinds():
    """Each kind of error: its branch, its class and the names of its attributes."""
    for branch, members in KINDS.items():
        for name, attributes in members.items():
            yield getattr(errors, branch), getattr(errors, name), attributes


class Branches(unittest.TestCase):
    def test_each_branch_stands_directly_below_its_error_of_python(self):
        for name, base in BRANCHES.items():
            self.assertEqual(getattr(errors, name).__bases__, (base,), name)

    def test_each_kind_stands_directly_below_its_branch_alone(self):
        for branch, kind, _ in kinds():
            self.assertEqual(kind.__bases__, (branch,), kind)

    def test_there_are_no_other_classes(self):
        named = set(BRANCHES).union(*KINDS.values())
        there = {name for name, value in vars(errors).items() if isinstance(value, type)}
        self.assertEqual(there, named)

    def test_each_kind_is_caught_by_its_branch_and_by_pythons_error(self):
        for branch, kind, attributes in kinds():
            for catch in (kind, branch, branch.__bases__[0]):
                with self.assertRaises(catch):
                    raise kind(*attributes)


class Attributes(unittest.TestCase):
    def test_made_by_position(self):
        for _, kind, attributes in kinds():
            values = [["passed", place] for place in range(len(attributes))]
            made = kind(*values)
            self.assertEqual([getattr(made, name) for name in attributes], values, kind)

    def test_made_by_name_in_any_sequence(self):
        for _, kind, attributes in kinds():
            values = {name: ["passed", name] for name in reversed(attributes)}
            made = kind(**values)
            self.assertEqual({name: getattr(made, name) for name in attributes}, values, kind)

    def test_made_with_any_values(self):
        for _, kind, attributes in kinds():
            for value in ODD_VALUES:
                made = kind(*[value for _ in attributes])
                for name in attributes:
                    self.assertIs(getattr(made, name), value)
                self.assertIsInstance(str(made), str)

    def test_no_fewer_and_no_more_values(self):
        for _, kind, attributes in kinds():
            with self.assertRaises(TypeError):
                kind(*attributes, "more")
            if attributes:
                with self.assertRaises(TypeError):
                    kind(*attributes[1:])

    def test_nothing_else_is_set(self):
        for _, kind, attributes in kinds():
            self.assertEqual(sorted(vars(kind(*attributes))), sorted(attributes), kind)


if __name__ == "__main__":
    unittest.main()
