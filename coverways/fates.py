"""What becomes of all addresses in a net: fates, rings, the farthest way, and nets that do the same."""

from coverways.errors import OtherHops
from coverways.nets import check_hop, fate_by, goals_at, rings_by, stretches_of, way_by
from coverways.stretches import check_same_width, first_addresses

# Sorted, as fates are.
WORDS = ("hole", "home", "ring")


def fates(net, hop):
    """The dict from the fates of all addresses from the hop to how many have them."""
    check_hop(net, hop)
    told = {(word, place): 0 for word in WORDS for place in net.hops()}
    for _, many, address in net.cells():
        if many > 0:
            fate = net.fate(hop, address)
            told[fate] = told[fate] + many
    return {fate: many for fate, many in told.items() if many > 0}


def first_fated(net, hop, fate):
    """The first address with this fate, any value, from the hop; None."""
    check_hop(net, hop)
    for address in first_addresses(net.width, stretches_of(net)):
        if net.fate(hop, address) == fate:
            return address
    return None


def rings(net):
    """The sorted list of the tuples (stretch, ring) of all cells that are not empty."""
    told = []
    for stretch, many, address in net.cells():
        if many > 0:
            told.extend([(stretch, ring) for ring in rings_by(goals_at(net, address))])
    return told


def first_astray(net):
    """The first tuple (address, hop) whose end is not "home"; None."""
    for address in first_addresses(net.width, stretches_of(net)):
        for hop in net.hops():
            if net.end(hop, address) != "home":
                return address, hop
    return None


def farthest(net):
    """The tuple (how many hops, address, hop) of the longest way, the first one of these."""
    best = (0, None, None)
    for address in first_addresses(net.width, stretches_of(net)):
        goals = goals_at(net, address)
        for hop in net.hops():
            many = len(way_by(goals, hop))
            if many > best[0]:
                best = (many, address, hop)
    return best


def is_same(one, other):
    """Whether all addresses have the same fate from each hop."""
    return first_other(one, other) is None


def first_other(one, other):
    """The first tuple (address, hop) with unlike fates; None."""
    check_same_width(one.width, other.width)
    check_same_hops(one, other)
    for address in first_addresses(one.width, [*stretches_of(one), *stretches_of(other)]):
        goals, other_goals = goals_at(one, address), goals_at(other, address)
        for hop in one.hops():
            if fate_by(goals, hop) != fate_by(other_goals, hop):
                return address, hop
    return None


def check_same_hops(one, other):
    """OtherHops unless the two nets have the same hops."""
    if one.hops() != other.hops():
        raise OtherHops(one.hops(), other.hops())
