"""Items gathered under a further one, gatherers dropped, and what that changes in the served nets."""

from coverways.errors import InvalidItems, InvalidRegion, InvalidWay, Stranger, UnknownItem, WrongMember
from coverways.fates import check_same_hops
from coverways.gathered import Gathered, members_of
from coverways.items import Closed, Gatherer, Leaf
from coverways.lists import first_wrong, is_list
from coverways.nets import stretches_of
from coverways.served import served
from coverways.stretches import check_same_width, first_addresses


def gather(gathered, item, region):
    """The gathered net with a further gatherer, and its members' ways cut to the region."""
    if not isinstance(item, Gatherer):
        raise InvalidItems(None)
    # The first member that is no item is UnknownItem here, ahead of all that is told of the region.
    members = [gathered[name] for name in item.members()]
    _check_region(gathered, item, members, region)
    _check_way(item, members, region)
    others = [gathered[name] for name in gathered.names() if name not in item.members()]
    for other in others:
        if _lies_between(other, item, members):
            raise Stranger(other.name)
    cut = {member.name: _cut(member, region) for member in members}
    return Gathered(gathered.width, [*[cut.get(name, gathered[name]) for name in gathered.names()], item])


def drop(gathered, name):
    """The gathered net without this gatherer."""
    if name not in gathered.gatherers():
        raise UnknownItem(name)
    others = [gathered[other] for other in gathered.names() if other != name]
    for item in others:
        if members_of(item) == [name]:
            raise WrongMember(item.name)
    return Gathered(gathered.width, [_without_member(item, name) for item in others])


def rows_saved(one, other):
    """How many rows more the served net of one has than that of the other, perhaps below 0."""
    return served(one).many_rows - served(other).many_rows


def same_ends(one, other):
    """Whether each address that ends with "home" from a hop in the served net of one ends with "home" at
    the same hop when it goes from there in that of the other."""
    check_same_width(one.width, other.width)
    check_same_hops(one, other)
    net, other_net = served(one), served(other)
    for address in first_addresses(net.width, [*stretches_of(net), *stretches_of(other_net)]):
        for hop in net.hops():
            fate = net.fate(hop, address)
            if fate[0] == "home" and other_net.fate(hop, address) != fate:
                return False
    return True


def _check_region(gathered, item, members, region):
    """InvalidRegion unless it is a list of unlike hops, with all keepers, that no member's way leaves."""
    if not is_list(region):
        raise InvalidRegion(None)
    position = first_wrong(region, gathered.hops())
    if position is not None:
        raise InvalidRegion(position)
    keepers = [item.keeper, *[member.keeper for member in members]]
    goals = [goal for member in members for hop, goal in member.way().items() if hop in region]
    if not all([hop in region for hop in [*keepers, *goals]]):
        raise InvalidRegion(None)


def _check_way(item, members, region):
    """InvalidWay unless the item's way has all hops outside that see a member, and none of the region."""
    way = item.way()
    outside = [hop for member in members for hop in member.sees() if hop not in region]
    if not all([hop in way for hop in outside]) or any([hop in way for hop in region]):
        raise InvalidWay(way)


def _lies_between(other, item, members):
    """Whether the other item's stretch is held by the item's and holds a longer one of a member."""
    if not other.stretch.startswith(item.stretch):
        return False
    # The other item has not the stretch of a member, so one that it holds is longer.
    return any([member.stretch.startswith(other.stretch) for member in members])


def _cut(item, region):
    """The item with just those keys of its way that are in the region."""
    way = {hop: goal for hop, goal in item.way().items() if hop in region}
    return _remade(item, members_of(item), way)


def _without_member(item, name):
    """The item without this member, if it has it."""
    return _remade(item, [member for member in members_of(item) if member != name], item.way())


def _remade(item, members, way):
    """The item with these members, if it is a gatherer, and this way."""
    if isinstance(item, Closed):
        return Closed(item.name, item.stretch, item.keeper, members, way)
    if isinstance(item, Gatherer):
        return Gatherer(item.name, item.stretch, item.keeper, members, way)
    return Leaf(item.name, item.stretch, item.keeper, way)
