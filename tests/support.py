"""What several tests use."""

import copy
import unittest
from itertools import product

from coverways.errors import InvalidAddress, InvalidFree, InvalidGoal, InvalidStretch, TooMany, UnknownHop
from coverways.late import Late
from coverways.nets import Net
from coverways.tables import Table

HOPS = ("a", "b", "c", "x", "y", "z")

WRONG_WIDTHS = [None, True, False, 0, -1, 101, 10 ** 30, "", "1", b"1", [1], (1,), {1: 1}, object()]
WRONG_LISTS = [None, True, False, 0, 1, "", "0", b"0", {}, {"0": 1}, {"0"}, object()]
WRONG_ELEMENTS = [None, True, False, 0, 1, "2", "0 ", b"0", [], ["0"], (), ("0",), {}, object()]
WRONG_STRETCHES = WRONG_ELEMENTS + ["000000", "0" * 101, 10 ** 30]
WRONG_ADDRESSES = WRONG_ELEMENTS + ["", "0", "0000", "000000", "0000a", 10 ** 30]
WRONG_GOALS = WRONG_ELEMENTS + ["", "abcdefg", "ring", "all", "none", "A", "a1", "Home"]
WRONG_HOPS = WRONG_ELEMENTS + ["", "q", "home", "hole", "ring", "X", "x ", ("x",), ["x"], {"x": 1}, Table(1)]


def strings(length):
    """All bits of the length, sorted."""
    return ["".join(bits) for bits in product("01", repeat=length)]


def stretches_to(length):
    """All bits of at most this length, shorter ones first."""
    return [bits for each in range(length + 1) for bits in strings(each)]


def held(free, address):
    """Whether one of the stretches holds the address."""
    return any(address.startswith(stretch) for stretch in free)


def random_table(chance, width, most_rows, goals):
    """A table by a source of chance, with stretches of all lengths."""
    rows = {}
    for _ in range(chance.randrange(most_rows + 1)):
        rows[random_stretch(chance, width)] = chance.choice(goals)
    return Table(width, rows)


def random_stretch(chance, width):
    return "".join(chance.choice("01") for _ in range(chance.randrange(width + 1)))


def random_free(chance, width, most):
    """Unlike stretches by a source of chance, mostly longer ones."""
    told = [random_stretch(chance, width) for _ in range(chance.randrange(most + 1))]
    return [stretch for at, stretch in enumerate(told) if stretch not in told[:at]]


def random_net(chance, most_width, most_hops, most_rows):
    """A net by a source of chance."""
    hops = chance.sample(HOPS, chance.randrange(1, most_hops + 1))
    width = chance.randrange(1, most_width + 1)
    return Net({hop: random_table(chance, width, most_rows, (*hops, "home", "hole")) for hop in hops})


def random_late(chance, most_width, most_hops, most_rows):
    """A late net by a source of chance, with about as many firm rows as loose ones."""
    net = random_net(chance, most_width, most_hops, most_rows)
    return Late(net, {hop: [stretch for stretch in net[hop].rows() if chance.randrange(3) == 0] for hop in net.hops()})


class Case(unittest.TestCase):
    def check(self, kind, attributes, action, *values, **more):
        """That the action raises just this kind of error, with just these attributes."""
        with self.assertRaises(kind) as caught:
            action(*values, **more)
        self.assertIs(type(caught.exception), kind)
        told = vars(caught.exception)
        self.assertEqual(told, attributes)
        for name, value in attributes.items():
            # True is equal to 1, so the kinds of the values are compared, too.
            self.assertIs(type(told[name]), type(value))

    def check_free(self, action):
        """That the action, of a free list at width 5, raises what belongs to such a parameter."""
        for value in WRONG_LISTS:
            self.check(InvalidFree, {"position": None}, action, value)
        for wrong in WRONG_STRETCHES:
            self.check(InvalidFree, {"position": 0}, action, [wrong])
            self.check(InvalidFree, {"position": 2}, action, ("", "11111", wrong, "11111"))
        self.check(InvalidFree, {"position": 1}, action, ["0", "0"])
        self.check(InvalidFree, {"position": 3}, action, ("00", "", "1", "", "00", None))
        twenty = stretches_to(5)[-20:]
        action(twenty)
        action(tuple(twenty))
        self.check(TooMany, {"what": "free", "limit": 20}, action, twenty + ["0"])
        self.check(TooMany, {"what": "free", "limit": 20}, action, tuple(stretches_to(5)))
        self.check(InvalidFree, {"position": 20}, action, twenty + [twenty[0]])
        self.check(InvalidFree, {"position": 21}, action, twenty + ["0", "0"])

    def check_stretch(self, action):
        """That the action, of a stretch at width 5, raises what belongs to such a parameter."""
        for wrong in WRONG_STRETCHES:
            self.check(InvalidStretch, {"value": wrong}, action, wrong)

    def check_address(self, action):
        """That the action, of an address at width 5, raises what belongs to such a parameter."""
        for wrong in WRONG_ADDRESSES:
            self.check(InvalidAddress, {"value": wrong}, action, wrong)

    def check_goal(self, action):
        """That the action, of a goal, raises what belongs to such a parameter."""
        for wrong in WRONG_GOALS:
            self.check(InvalidGoal, {"value": wrong}, action, wrong)

    def check_hop(self, action):
        """That the action, of a hop out of x, y and z, raises what belongs to such a parameter."""
        for wrong in WRONG_HOPS:
            self.check(UnknownHop, {"value": wrong}, action, wrong)

    def check_new(self, action, *values):
        """That the action gives equal results when repeated, though the first one was changed, and
        that it leaves what is passed as it was."""
        kept = copy.deepcopy(values)
        once = action(*values)
        expected = copy.deepcopy(once)
        spoil(once)
        self.assertEqual(action(*values), expected)
        self.assertEqual(values, kept)


def spoil(value):
    """Changes all lists and dicts inside the value."""
    if isinstance(value, (list, tuple)):
        for entry in value:
            spoil(entry)
    if isinstance(value, list):
        value.append("spoiled")
    if isinstance(value, dict):
        for entry in value.values():
            spoil(entry)
        value["spoiled"] = "spoiled"
