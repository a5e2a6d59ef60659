"""Gathered nets: items at hops, and the items by which the hops send addresses."""

from coverways.errors import InvalidItems, InvalidWithdrawn, TooMany, UnknownHop, UnknownItem, WrongMember
from coverways.items import Closed, Gatherer, Leaf
from coverways.lists import first_wrong, is_list
from coverways.nets import fate_by, way_by
from coverways.stretches import cells, check_address, check_width

MOST_HOPS = 6
MOST_LEAVES = 6
MOST_GATHERERS = 5
MOST_NESTED = 5


class Gathered:
    """A width and its items, leaves and gatherers of them; it never changes."""

    def __init__(self, width, items):
        check_width(width)
        _check_items(width, items)
        known = {item.name: item for item in items}
        _check_members(items, known)
        _check_limits(items)
        self._width = width
        self._items = {name: known[name] for name in sorted(known, key=str)}
        self._hops = _hops_of(items)

    @property
    def width(self):
        """The width of the addresses."""
        return self._width

    def names(self):
        """The sorted list of the names of the items."""
        return list(self._items)

    def hops(self):
        """The sorted list of the hops."""
        return list(self._hops)

    def leaves(self):
        """The sorted list of the names of the leaves."""
        return [name for name, item in self._items.items() if isinstance(item, Leaf)]

    def gatherers(self):
        """The sorted list of the names of the gatherers."""
        return [name for name, item in self._items.items() if isinstance(item, Gatherer)]

    def cells(self):
        """The cells of the stretches of the items."""
        return cells(self._width, [item.stretch for item in self._items.values()])

    def with_hole(self, name):
        """The gathered net in which this gatherer has a hole row."""
        item = self._gatherer(name)
        return self._with(Closed(name, item.stretch, item.keeper, item.members(), item.way()))

    def without_hole(self, name):
        """The gathered net in which this gatherer has no hole row."""
        item = self._gatherer(name)
        return self._with(Gatherer(name, item.stretch, item.keeper, item.members(), item.way()))

    def stands(self, name, withdrawn=()):
        """Whether the item stands when these leaves are withdrawn."""
        if name not in self:
            raise UnknownItem(name)
        check_withdrawn(self, withdrawn)
        return self._stands(name, withdrawn)

    def standing(self, withdrawn=()):
        """The sorted list of the names of the items that stand."""
        check_withdrawn(self, withdrawn)
        return [name for name in self._items if self._stands(name, withdrawn)]

    def sent_by(self, hop, address, withdrawn=()):
        """The name of the item by which the hop sends the address; None."""
        return sender(self, hop, pattern_at(self, hop, address, withdrawn))

    def way(self, hop, address, withdrawn=()):
        """The list of the hops that the address passes from the hop."""
        return way_by(goals_of(self, pattern_at(self, hop, address, withdrawn)), hop)

    def end(self, hop, address, withdrawn=()):
        """How the way of the address from the hop ends: "home", "hole" or "ring"."""
        return fate_by(goals_of(self, pattern_at(self, hop, address, withdrawn)), hop)[0]

    def __add__(self, other):
        if not _is_item(other):
            raise InvalidItems(None)
        return Gathered(self._width, [*list(self._items.values()), other])

    def __getitem__(self, at):
        if at not in self:
            raise UnknownItem(at)
        return self._items[at]

    def __iter__(self):
        raise TypeError("a gathered net is not iterated over")

    def __len__(self):
        return len(self._items)

    def __contains__(self, x):
        return isinstance(x, str) and x in self._items

    def __eq__(self, other):
        return isinstance(other, Gathered) and self._width == other._width and self._items == other._items

    def __repr__(self):
        return f"Gathered({self._width}, {list(self._items.values())!r})"

    def _gatherer(self, name):
        """The gatherer of this name."""
        if name not in self.gatherers():
            raise UnknownItem(name)
        return self._items[name]

    def _with(self, item):
        """The gathered net with this item in the place of the one of its name."""
        return Gathered(self._width, list({**self._items, item.name: item}.values()))

    def _stands(self, name, withdrawn):
        """Whether the item stands, by a name and withdrawn leaves that are right."""
        item = self._items[name]
        if isinstance(item, Leaf):
            return name not in withdrawn
        return any([self._stands(member, withdrawn) for member in item.members()])


def check_place(gathered, hop, address):
    """UnknownHop unless it is a hop of the gathered net, InvalidAddress."""
    if hop not in gathered.hops():
        raise UnknownHop(hop)
    check_address(gathered.width, address)


def check_withdrawn(gathered, withdrawn):
    """InvalidWithdrawn unless it is a list of unlike names of leaves."""
    if not is_list(withdrawn):
        raise InvalidWithdrawn(None)
    position = first_wrong(withdrawn, gathered.leaves())
    if position is not None:
        raise InvalidWithdrawn(position)


def members_of(item):
    """The sorted list of the names of the members of the item; of a leaf, an empty one."""
    if isinstance(item, Gatherer):
        return item.members()
    return []


def sends(item, hop):
    """Whether the hop can send addresses by the item."""
    if hop == item.keeper:
        return isinstance(item, Leaf) or isinstance(item, Closed)
    return hop in item.way()


def goal_by(item, hop):
    """Where the hop, which can send by the item, sends addresses by it: another hop, "home" or "hole"."""
    if hop != item.keeper:
        return item.way()[hop]
    return "home" if isinstance(item, Leaf) else "hole"


def pattern_of(gathered, address, withdrawn):
    """The sorted list of the names of the items that hold the address and stand."""
    return [name for name in gathered.standing(withdrawn) if address.startswith(gathered[name].stretch)]


def pattern_at(gathered, hop, address, withdrawn):
    """The same, behind the checks of what is asked of a hop: UnknownHop, InvalidAddress, InvalidWithdrawn."""
    check_place(gathered, hop, address)
    return pattern_of(gathered, address, withdrawn)


def sender(gathered, hop, pattern):
    """The name of the item by which the hop sends an address of this pattern; None."""
    able = {gathered[name].stretch: name for name in pattern if sends(gathered[name], hop)}
    return able.get(max(list(able), key=len, default=None))


def goals_of(gathered, pattern):
    """The dict from all hops to where they send an address of this pattern."""
    goals = {hop: "hole" for hop in gathered.hops()}
    for hop in gathered.hops():
        name = sender(gathered, hop, pattern)
        if name is not None:
            goals[hop] = goal_by(gathered[name], hop)
    return goals


def _is_item(value):
    """Whether the value can be an item of a gathered net."""
    return isinstance(value, Leaf) or isinstance(value, Gatherer)


def _check_items(width, items):
    """InvalidItems unless it is a list of items, at least one, with unlike names and unlike stretches."""
    if not is_list(items) or len(items) == 0:
        raise InvalidItems(None)
    for position, item in enumerate(items):
        if not _is_item(item) or len(item.stretch) > width or _is_like_one(item, items[:position]):
            raise InvalidItems(position)


def _is_like_one(item, others):
    """Whether one of the other items has the name or the stretch of the item."""
    return any([item.name == other.name or item.stretch == other.stretch for other in others])


def _check_members(items, known):
    """UnknownItem, and behind all these WrongMember, with the first member that is wrong so."""
    pairs = [(item, member) for item in items for member in members_of(item)]
    for _, member in pairs:
        if member not in known:
            raise UnknownItem(member)
    for position, (gatherer, member) in enumerate(pairs):
        ahead = [name for _, name in pairs[:position]]
        if member in ahead or not _fits(gatherer, known[member]):
            raise WrongMember(member)


def _fits(gatherer, member):
    """Whether the item can be a member of the gatherer, whose keeper has to see it."""
    # No two items have the same stretch, so one that is held is longer.
    return member.stretch.startswith(gatherer.stretch) and gatherer.keeper in member.sees()


def _check_limits(items):
    """TooMany, for the first limit that the items pass."""
    many_leaves = len([item for item in items if isinstance(item, Leaf)])
    counts = (("hops", len(_hops_of(items)), MOST_HOPS), ("leaves", many_leaves, MOST_LEAVES),
              ("gatherers", len(items) - many_leaves, MOST_GATHERERS), ("nested", _nested(items), MOST_NESTED))
    for what, many, limit in counts:
        if many > limit:
            raise TooMany(what, limit)


def _hops_of(items):
    """The sorted list of the hops that see one of the items."""
    known = {hop: True for item in items for hop in item.sees()}
    return sorted(known, key=str)


def _nested(items):
    """The most items that hold one address."""
    return max([_many_around(item, items) for item in items], key=int)


def _many_around(item, items):
    """How many of the items hold the stretch of the item."""
    return len([other for other in items if item.stretch.startswith(other.stretch)])
