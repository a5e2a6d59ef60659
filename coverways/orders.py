"""Orders in which hops go over from old tables to new ones, and families that show that none is safe."""

from coverways.errors import InvalidHops, InvalidWord, NoOrder, TooMany
from coverways.fates import check_same_hops
from coverways.lists import first_wrong, is_list, is_part, is_sorted_part, subsets
from coverways.nets import Net, fate_by, goals_at, stretches_of
from coverways.stretches import check_same_width, first_addresses

HOME = "home"
RING = "ring"


def mixed(old, new, hops):
    """The net with the new tables at these hops, and the old ones elsewhere."""
    _check_nets(old, new)
    _check_hops(old, hops)
    _check_rows(old, new)
    return Net({hop: new[hop] if hop in hops else old[hop] for hop in old.hops()})


def is_good(old, new, hops, word="home"):
    """Whether the hops are good by the word."""
    return first_bad(old, new, hops, word) is None


def first_bad(old, new, hops, word="home"):
    """The first tuple (address, hop) against it that the hops are good; None."""
    _check_nets(old, new)
    _check_hops(old, hops)
    _check_word(word)
    _check_rows(old, new)
    return _first_bad(_parts(old, new, word), hops, word)


def first_order(old, new, word="home"):
    """The first safe order; None."""
    _check_all(old, new, word)
    ways = _ways_on(old, new, word)
    if ways[()] == 0:
        return None
    order = []
    for _ in old.hops():
        order.append([hop for hop in old.hops() if ways.get(_and(order, hop), 0) > 0][0])
    return order


def is_order(old, new, value, word="home"):
    """Whether the value is a safe order."""
    _check_all(old, new, word)
    parts = _parts(old, new, word)
    if not is_part(value, old.hops()) or len(value) != len(old):
        return False
    return all([_first_bad(parts, value[:many], word) is None for many in range(len(value) + 1)])


def how_many_orders(old, new, word="home"):
    """How many safe orders there are."""
    _check_all(old, new, word)
    return _ways_on(old, new, word)[()]


def family(old, new, word="home"):
    """A family: all sets of hops to which one can come by good ones; None."""
    _check_all(old, new, word)
    ways = _ways_on(old, new, word)
    if ways[()] > 0:
        return None
    return [list(hops) for hops in _come_to(old, ways)]


def is_family(old, new, value, word="home"):
    """Whether the value is a family."""
    _check_all(old, new, word)
    parts = _parts(old, new, word)
    if not is_list(value) or not all([is_sorted_part(hops, old.hops()) for hops in value]):
        return False
    sets = [tuple(hops) for hops in value]
    if first_wrong(sets, sets) is not None or () not in sets or tuple(old.hops()) in sets:
        return False
    beside = {further: True for hops in sets for further in _further(old, hops) if further not in sets}
    if any([_first_bad(parts, hops, word) is not None for hops in sets]):
        return False
    return not any([_first_bad(parts, hops, word) is None for hops in beside])


def ahead(old, new, word="home"):
    """The sorted list of all tuples of two unlike hops of which the first one is ahead of the second one."""
    _check_nets(old, new)
    _check_word(word)
    ways = _ways_on(old, new, word)
    # The limit of rows is checked last of all, so it stands behind this.
    if ways[()] == 0:
        raise NoOrder()
    _check_rows(old, new)
    # These are all beginnings of safe orders, so one of them has the second hop without the first
    # one unless that is ahead.
    beginnings = [hops for hops in _come_to(old, ways) if ways[hops] > 0]
    pairs = [(one, other) for one in old.hops() for other in old.hops() if one != other]
    return [(one, other) for one, other in pairs if not any([other in hops and one not in hops for hops in beginnings])]


def is_in_limits(old, new):
    """Whether the tables with more rows of each hop, old or new, have no more rows together than a net may."""
    return sum([max(len(old[hop]), len(new[hop])) for hop in old.hops()]) <= Net.MOST_ROWS


def is_word(value):
    """Whether the value is a word by which hops are good."""
    return value in (HOME, RING)


def _check_nets(old, new):
    """OtherWidth, OtherHops."""
    check_same_width(old.width, new.width)
    check_same_hops(old, new)


def _check_hops(old, hops):
    """InvalidHops unless it is a list of unlike hops."""
    if not is_list(hops):
        raise InvalidHops(None)
    position = first_wrong(hops, old.hops())
    if position is not None:
        raise InvalidHops(position)


def _check_word(word):
    """InvalidWord unless it is such a word."""
    if not is_word(word):
        raise InvalidWord(word)


def _check_rows(old, new):
    """TooMany, by the limit of rows over both nets."""
    if not is_in_limits(old, new):
        raise TooMany("rows", Net.MOST_ROWS)


def _check_all(old, new, word):
    """OtherWidth, OtherHops, InvalidWord, TooMany."""
    _check_nets(old, new)
    _check_word(word)
    _check_rows(old, new)


def _parts(old, new, word):
    """The list of tuples of an address, its goals in both nets, and the hops from which neither net is
    against the word; of addresses with the same goals only the first one, without such hops none."""
    told = {}
    for address in first_addresses(old.width, [*stretches_of(old), *stretches_of(new)]):
        goals, new_goals = goals_at(old, address), goals_at(new, address)
        kept = [hop for hop in goals if _is_kept(goals, hop, word) and _is_kept(new_goals, hop, word)]
        if kept:
            both = tuple([goal for hop in goals for goal in (goals[hop], new_goals[hop])])
            told.setdefault(both, (address, goals, new_goals, kept))
    return list(told.values())


def _is_kept(goals, hop, word):
    """Whether the end from the hop is not against the word, by a dict from all hops to goals."""
    end = fate_by(goals, hop)[0]
    return end == HOME if word == HOME else end != RING


def _first_bad(parts, hops, word):
    """The first tuple (address, hop) of the parts against it that the hops are good; None."""
    for address, goals, new_goals, kept in parts:
        mixed_goals = {hop: new_goals[hop] if hop in hops else goal for hop, goal in goals.items()}
        for hop in kept:
            if not _is_kept(mixed_goals, hop, word):
                return address, hop
    return None


def _and(hops, hop):
    """The sorted tuple of the hops and a further one."""
    return tuple(sorted([*hops, hop], key=str))


def _further(old, hops):
    """The list of the sorted tuples of the hops and each hop that is not among them."""
    return [_and(hops, hop) for hop in old.hops() if hop not in hops]


def _ways_on(old, new, word):
    """The dict from the sorted tuples of good hops to how many sequences there are in which the other
    hops can follow so that all beginnings are good."""
    parts = _parts(old, new, word)
    ways = {tuple(old.hops()): 1}
    # Each set is behind its parts in the list, so from the end on those with a hop more are known.
    for hops in reversed(list(subsets(old.hops())[:-1])):
        if _first_bad(parts, hops, word) is None:
            ways[tuple(hops)] = sum([ways.get(further, 0) for further in _further(old, hops)])
    return ways


def _come_to(old, ways):
    """The list of the good tuples to which one can come from none, by good ones with a hop more each."""
    told = {(): True}
    for hops in subsets(old.hops()):
        if tuple(hops) in told:
            for further in _further(old, hops):
                if further in ways:
                    told[further] = True
    return list(told)
