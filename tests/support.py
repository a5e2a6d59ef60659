"""What several tests use."""

import copy
import unittest
from itertools import product

from coverways.errors import (InvalidAddress, InvalidFree, InvalidGoal, InvalidStretch, InvalidWithdrawn, TooMany,
                              UnknownHop, UnknownItem)
from coverways.gathered import Gathered
from coverways.items import Closed, Gatherer, Leaf
from coverways.late import Late
from coverways.nets import Net
from coverways.tables import Table

HOPS = ("a", "b", "c", "x", "y", "z")

WRONG_WIDTHS = [None, True, False, 0, -1, 101, 10 ** 30, "", "1", b"1", [1], (1,), {1: 1}, object()]
WRONG_LISTS = [None, True, False, 0, 1, "", "0", b"0", {}, {"0": 1}, {"0"}, object()]
WRONG_ELEMENTS = [None, True, False, 0, 1, "2", "0 ", b"0", [], ["0"], (), ("0",), {}, object()]
WRONG_STRETCHES = WRONG_ELEMENTS + ["000000", "0" * 101, 10 ** 30]
WRONG_ADDRESSES = WRONG_ELEMENTS + ["", "0", "0000", "000000", "0000a", 10 ** 30]
WRONG_GOALS = WRONG_ELEMENTS + ["", "abcdefg", "ring", "all", "none", "A", "a1", "Home"]
WRONG_HOPS = WRONG_ELEMENTS + ["", "q", "home", "hole", "ring", "X", "x ", ("x",), ["x"], {"x": 1}, Table(1)]

WRONG_LEAVES = WRONG_ELEMENTS + ["", "g", "x", "pq", "home", "P", ["p"], ("p",), {"p": 1}, Leaf("p", "", "x")]

# Of width 5, with the hops x, y and z, the leaves p, q and r, and the gatherer g.
GATHERED_FIVE = Gathered(5, [Leaf("p", "000", "x", {"y": "x"}), Leaf("q", "001", "x"), Leaf("r", "0", "y", {"x": "y"}),
                             Gatherer("g", "00", "x", ["q", "p"], {"z": "y", "y": "x"})])


def strings(length):
    """All bits of the length, sorted."""
    return ["".join(bits) for bits in product("01", repeat=length)]


def stretches_to(length):
    """All bits of at most this length, shorter ones first."""
    return [bits for each in range(length + 1) for bits in strings(each)]


def held(free, address):
    """Whether one of the stretches holds the address."""
    return any(address.startswith(stretch) for stretch in free)


def random_table(chance, width, most_rows, goals):
    """A table by a source of chance, with stretches of all lengths."""
    rows = {}
    for _ in range(chance.randrange(most_rows + 1)):
        rows[random_stretch(chance, width)] = chance.choice(goals)
    return Table(width, rows)


def random_stretch(chance, width):
    return "".join(chance.choice("01") for _ in range(chance.randrange(width + 1)))


def random_free(chance, width, most):
    """Unlike stretches by a source of chance, mostly longer ones."""
    told = [random_stretch(chance, width) for _ in range(chance.randrange(most + 1))]
    return [stretch for at, stretch in enumerate(told) if stretch not in told[:at]]


def random_net(chance, most_width, most_hops, most_rows):
    """A net by a source of chance."""
    hops = chance.sample(HOPS, chance.randrange(1, most_hops + 1))
    width = chance.randrange(1, most_width + 1)
    return Net({hop: random_table(chance, width, most_rows, (*hops, "home", "hole")) for hop in hops})


def random_late(chance, most_width, most_hops, most_rows):
    """A late net by a source of chance, with about as many firm rows as loose ones."""
    net = random_net(chance, most_width, most_hops, most_rows)
    return Late(net, {hop: [stretch for stretch in net[hop].rows() if chance.randrange(3) == 0] for hop in net.hops()})


def random_way(chance, hops, keeper):
    """A way to the keeper from some of the hops, by a source of chance."""
    way = {}
    for hop in chance.sample(hops, len(hops)):
        if hop != keeper and chance.randrange(5):
            way[hop] = chance.choice([keeper, *way])
    return way


def random_gathered(chance, most_width=4, most_hops=4, most_leaves=4, most_gatherers=4):
    """A gathered net by a source of chance, with leaves of p to u, and gatherers of d to h."""
    hops = chance.sample(HOPS, chance.randrange(1, most_hops + 1))
    width = chance.randrange(1, most_width + 1)
    items = []
    for name in "pqrstu"[:max(chance.randrange(1, most_leaves + 1), chance.randrange(1, most_leaves + 1))]:
        longest = chance.choice([width, width, chance.randrange(width + 1)])
        stretch = unused_stretch(chance, items, "".join(chance.choice("001") for _ in range(longest)), longest)
        if stretch is not None:
            keeper = chance.choice(hops)
            items.append(Leaf(name, stretch, keeper, random_way(chance, hops, keeper)))
    free = list(items)
    # Often there is none to be found, so they are tried more than once.
    for name in "defgh"[:chance.randrange(most_gatherers + 1)] * 3:
        if name in [item.name for item in items]:
            continue
        gatherer = random_gatherer(chance, name, hops, items, free)
        if gatherer is not None:
            free = [item for item in [*free, gatherer] if item.name not in gatherer.members()]
            items.append(gatherer)
    chance.shuffle(items)
    return Gathered(width, items)


def unused_stretch(chance, items, stretch, most):
    """One of the beginnings of the stretch, with so many bits at the most, that no item has; None."""
    used = [item.stretch for item in items]
    told = [stretch[:length] for length in range(min(most, len(stretch)) + 1) if stretch[:length] not in used]
    return chance.choice(told[-2:]) if told else None


def random_gatherer(chance, name, hops, items, free):
    """A gatherer of some of the free items, by a source of chance; None."""
    if not free:
        return None
    inner = chance.choice(free).stretch
    stretch = unused_stretch(chance, items, inner, len(inner) - 1)
    if stretch is None:
        return None
    held = [item for item in free if item.stretch.startswith(stretch) and len(item.stretch) > len(stretch)]
    members = chance.sample(held, chance.randrange(1, min(3, len(held)) + 1))
    keepers = [hop for hop in hops if all(hop in member.sees() for member in members)]
    if not keepers:
        return None
    kind, keeper = chance.choice([Gatherer, Gatherer, Closed]), chance.choice(keepers)
    return kind(name, stretch, keeper, [member.name for member in members], random_way(chance, hops, keeper))


def all_withdrawn(gathered):
    """The lists of all parts of the leaves."""
    leaves = gathered.leaves()
    return [[leaf for leaf, gone in zip(leaves, choice) if gone] for choice in product((0, 1), repeat=len(leaves))]


def stands_by_words(gathered, name, withdrawn):
    item = gathered[name]
    if isinstance(item, Leaf):
        return name not in withdrawn
    return any(stands_by_words(gathered, member, withdrawn) for member in item.members())


def sent_by_words(gathered, hop, address, withdrawn):
    """The item by which the hop sends the address; None."""
    best = None
    for name in gathered.names():
        item = gathered[name]
        if not address.startswith(item.stretch) or hop not in item.sees():
            continue
        if not stands_by_words(gathered, name, withdrawn) or (hop == item.keeper and type(item) is Gatherer):
            continue
        if best is None or len(item.stretch) > len(best.stretch):
            best = item
    return best


def way_of_gathered_by_words(gathered, hop, address, withdrawn):
    """The tuple of the way, the end, the items by which the hops of it send, and the hops that are passed
    again and again."""
    way, items = [], []
    while hop not in way:
        way.append(hop)
        item = sent_by_words(gathered, hop, address, withdrawn)
        if item is None:
            return way, "hole", items, []
        items.append(item)
        if item.keeper == hop:
            return way, "home" if isinstance(item, Leaf) else "hole", items, []
        hop = item.way()[hop]
    return way, "ring", items, way[way.index(hop):]


class Case(unittest.TestCase):
    def check(self, kind, attributes, action, *values, **more):
        """That the action raises just this kind of error, with just these attributes."""
        with self.assertRaises(kind) as caught:
            action(*values, **more)
        self.assertIs(type(caught.exception), kind)
        told = vars(caught.exception)
        self.assertEqual(told, attributes)
        for name, value in attributes.items():
            # True is equal to 1, so the kinds of the values are compared, too.
            self.assertIs(type(told[name]), type(value))

    def check_free(self, action):
        """That the action, of a free list at width 5, raises what belongs to such a parameter."""
        for value in WRONG_LISTS:
            self.check(InvalidFree, {"position": None}, action, value)
        for wrong in WRONG_STRETCHES:
            self.check(InvalidFree, {"position": 0}, action, [wrong])
            self.check(InvalidFree, {"position": 2}, action, ("", "11111", wrong, "11111"))
        self.check(InvalidFree, {"position": 1}, action, ["0", "0"])
        self.check(InvalidFree, {"position": 3}, action, ("00", "", "1", "", "00", None))
        twenty = stretches_to(5)[-20:]
        action(twenty)
        action(tuple(twenty))
        self.check(TooMany, {"what": "free", "limit": 20}, action, twenty + ["0"])
        self.check(TooMany, {"what": "free", "limit": 20}, action, tuple(stretches_to(5)))
        self.check(InvalidFree, {"position": 20}, action, twenty + [twenty[0]])
        self.check(InvalidFree, {"position": 21}, action, twenty + ["0", "0"])

    def check_stretch(self, action):
        """That the action, of a stretch at width 5, raises what belongs to such a parameter."""
        for wrong in WRONG_STRETCHES:
            self.check(InvalidStretch, {"value": wrong}, action, wrong)

    def check_address(self, action):
        """That the action, of an address at width 5, raises what belongs to such a parameter."""
        for wrong in WRONG_ADDRESSES:
            self.check(InvalidAddress, {"value": wrong}, action, wrong)

    def check_goal(self, action):
        """That the action, of a goal, raises what belongs to such a parameter."""
        for wrong in WRONG_GOALS:
            self.check(InvalidGoal, {"value": wrong}, action, wrong)

    def check_hop(self, action):
        """That the action, of a hop out of x, y and z, raises what belongs to such a parameter."""
        for wrong in WRONG_HOPS:
            self.check(UnknownHop, {"value": wrong}, action, wrong)

    def check_withdrawn(self, action):
        """That the action, of withdrawn leaves out of p, q and r, raises what belongs to such a parameter."""
        for value in WRONG_LISTS + ["p", {"p": 1}, {"p"}, GATHERED_FIVE]:
            self.check(InvalidWithdrawn, {"position": None}, action, value)
        for wrong in WRONG_LEAVES:
            self.check(InvalidWithdrawn, {"position": 0}, action, [wrong])
            self.check(InvalidWithdrawn, {"position": 2}, action, ("r", "p", wrong, "r"))
        self.check(InvalidWithdrawn, {"position": 1}, action, ["p", "p"])
        self.check(InvalidWithdrawn, {"position": 3}, action, ("r", "p", "q", "r", None))
        for value in ([], (), ["r", "p"], ("q", "p", "r")):
            action(value)

    def check_item(self, action, *others):
        """That the action, of the name of an item that is there, raises UnknownItem for each other value."""
        for wrong in WRONG_ELEMENTS + ["", "x", "pq", "home", "G", ["p"], ["g"], ("g",), GATHERED_FIVE["g"], *others]:
            self.check(UnknownItem, {"value": wrong}, action, wrong)

    def check_new(self, action, *values):
        """That the action gives equal results when repeated, though the first one was changed, and
        that it leaves what is passed as it was."""
        kept = copy.deepcopy(values)
        once = action(*values)
        expected = copy.deepcopy(once)
        spoil(once)
        self.assertEqual(action(*values), expected)
        self.assertEqual(values, kept)


def spoil(value):
    """Changes all lists and dicts inside the value."""
    if isinstance(value, (list, tuple)):
        for entry in value:
            spoil(entry)
    if isinstance(value, list):
        value.append("spoiled")
    if isinstance(value, dict):
        for entry in value.values():
            spoil(entry)
        value["spoiled"] = "spoiled"
