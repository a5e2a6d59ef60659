"""Items of gathered nets: leaves, and gatherers, with a hole row or without one."""

from coverways.errors import InvalidHop, InvalidMembers, InvalidName, InvalidStretch, InvalidWay
from coverways.stretches import MOST_WIDTH, is_name, is_stretch


class Item:
    """A name, a stretch, a keeper, and a way from other hops to the keeper; it never changes."""

    def __init__(self, name, stretch, keeper, way=None):
        if not is_name(name):
            raise InvalidName(name)
        if not is_stretch(MOST_WIDTH, stretch):
            raise InvalidStretch(stretch)
        if not is_name(keeper):
            raise InvalidHop(keeper)
        self.name = name
        self.stretch = stretch
        self.keeper = keeper
        self._way = _sorted_way(keeper, way)

    def way(self):
        """The dict from hops to the next hop on the way to the keeper."""
        return dict(self._way)

    def sees(self):
        """The sorted list of the hops that see it."""
        return sorted([self.keeper, *self._way], key=str)

    def told(self):
        """What it is, in words."""
        return f"{self.name} {self.stretch or '-'} at {self.keeper}"

    def __eq__(self, other):
        # Shown are the class and all parts.
        return isinstance(other, Item) and repr(self) == repr(other)

    def __repr__(self):
        return f"Item{self._parts()!r}"

    def _parts(self):
        """The tuple of what it is made of."""
        return self.name, self.stretch, self.keeper, self._way


class Leaf(Item):
    """An item that stands unless it is withdrawn."""

    def told(self):
        """What it is, in words."""
        return "leaf " + super().told()

    def __repr__(self):
        return f"Leaf{self._parts()!r}"


class Gatherer(Item):
    """An item that stands as long as one of its members stands."""

    def __init__(self, name, stretch, keeper, members, way=None):
        super().__init__(name, stretch, keeper)
        _check_members(name, members)
        self._members = sorted(list(members), key=str)
        # The way is set here, since what is wrong with the members is told ahead of it.
        self._way = _sorted_way(keeper, way)

    def members(self):
        """The sorted list of the names of its members."""
        return list(self._members)

    def told(self):
        """What it is, in words."""
        return f"gatherer of {len(self._members)} " + super().told()

    def __repr__(self):
        return f"Gatherer{self._parts()!r}"

    def _parts(self):
        return self.name, self.stretch, self.keeper, self._members, self._way


class Holed:
    """What has a hole row."""

    def told(self):
        """What it is, in words."""
        return "holed " + super().told()


class Closed(Holed, Gatherer):
    """A gatherer with a hole row."""

    def __repr__(self):
        return f"Closed{self._parts()!r}"


def _sorted_way(keeper, way):
    """The way as a dict with sorted keys; InvalidWay."""
    if way is None:
        return {}
    if not _is_way(keeper, way):
        raise InvalidWay(way)
    return {hop: way[hop] for hop in sorted(way, key=str)}


def _is_way(keeper, value):
    """Whether it is a dict of NAMES in which from each key one comes to the keeper, which is no key."""
    if not isinstance(value, dict) or keeper in value:
        return False
    if not all([is_name(hop) and is_name(goal) for hop, goal in value.items()]):
        return False
    return all([_comes_to(keeper, value, hop) for hop in value])


def _comes_to(keeper, way, hop):
    """Whether one comes from the hop to the keeper, key by key."""
    for _ in way:
        if hop in way:
            hop = way[hop]
    return hop == keeper


def _check_members(name, members):
    """InvalidMembers unless it is a list of unlike NAMES, at least one, without this name."""
    if not isinstance(members, (list, tuple)) or len(members) == 0:
        raise InvalidMembers(None)
    for position, member in enumerate(members):
        if not is_name(member) or member == name or member in members[:position]:
            raise InvalidMembers(position)
