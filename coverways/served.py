"""Gathered nets as tables: served nets, late nets, and addresses that lie and that stray."""

from coverways.errors import UnknownHop
from coverways.gathered import goal_by, goals_of, pattern_of, sender, sends
from coverways.items import Leaf
from coverways.late import Late
from coverways.nets import Net, fate_by
from coverways.stretches import first_addresses
from coverways.tables import Table


def served(gathered, withdrawn=()):
    """The net with a row at each hop for each item that stands and by which the hop can send."""
    items = [gathered[name] for name in gathered.standing(withdrawn)]
    return Net({hop: _table_of(gathered.width, hop, items) for hop in gathered.hops()})


def late_of(gathered):
    """The late net of all rows, all of them loose."""
    return Late(served(gathered))


def told_to(gathered, hop, withdrawn=()):
    """The table of the hop in the served net."""
    if hop not in gathered.hops():
        raise UnknownHop(hop)
    return served(gathered, withdrawn)[hop]


def lying_number(gathered, withdrawn=()):
    """How many addresses lie."""
    parts = [(many, address) for _, many, address in gathered.cells() if many > 0]
    return sum([many for many, address in parts if _lies(gathered, address, withdrawn)])


def first_lying(gathered, withdrawn=()):
    """The first address that lies; None."""
    for address in _addresses(gathered):
        if _lies(gathered, address, withdrawn):
            return address
    return None


def first_straying(gathered, withdrawn=()):
    """The first tuple (address, hop) such that the address strays there; None."""
    for address in _addresses(gathered):
        pattern = pattern_of(gathered, address, withdrawn)
        if _has_leaf(gathered, pattern):
            astray = _hops_astray(gathered, pattern)
            if astray:
                return address, astray[0]
    return None


def _table_of(width, hop, items):
    """The table of the hop, with a row for each of the items by which it can send."""
    return Table(width, {item.stretch: goal_by(item, hop) for item in items if sends(item, hop)})


def _addresses(gathered):
    """The sorted list of the first addresses of all cells that are not empty."""
    return first_addresses(gathered.width, [gathered[name].stretch for name in gathered.names()])


def _has_leaf(gathered, pattern):
    """Whether one of the items is a leaf."""
    return any([isinstance(gathered[name], Leaf) for name in pattern])


def _lies(gathered, address, withdrawn):
    """Whether gatherers that stand hold the address, but no leaf that stands."""
    pattern = pattern_of(gathered, address, withdrawn)
    return len(pattern) > 0 and not _has_leaf(gathered, pattern)


def _hops_astray(gathered, pattern):
    """The sorted list of the hops that send an address of this pattern so that it does not end with "home"."""
    goals = goals_of(gathered, pattern)
    sending = [hop for hop in gathered.hops() if sender(gathered, hop, pattern) is not None]
    return [hop for hop in sending if fate_by(goals, hop)[0] != "home"]
