"""What can become of addresses at the moments of a late net: ranks, ring papers, ends."""

from coverways.errors import InvalidGone
from coverways.lists import is_part
from coverways.nets import check_hop, goals_at, leads_round, ring_by
from coverways.stretches import ENDS, is_address, is_count


def is_safe_late(late):
    """Whether no address rings at any moment."""
    return ring_paper(late) is None


def ranks(late):
    """Ranks, the least ones: to how many further hops an address can come; None."""
    told = {}
    for stretch, address in _parts(late):
        leads = _leads(late, address)
        ranked = _ranked(leads)
        if len(ranked) < len(leads):
            return None
        told[stretch] = {hop: ranked[hop] for hop in leads}
    return told


def are_ranks(late, value):
    """Whether the value is ranks."""
    parts = _parts(late)
    if not isinstance(value, dict) or len(value) != len(parts):
        return False
    return all([stretch in value and are_ranks_by(_leads(late, address), value[stretch]) for stretch, address in parts])


def ring_paper(late):
    """A ring paper; None."""
    for _, address in _parts(late):
        ring = _ring(_leads(late, address))
        if ring:
            steps = [(ring[at - 1], hop) for at, hop in enumerate(ring)]
            gone = [row for hop, goal in steps for row in _rows_ahead(late, hop, address, goal)]
            return address, list(ring), gone
    return None


def is_ring_paper(late, value):
    """Whether the value is a ring paper."""
    if not isinstance(value, tuple) or len(value) != 3:
        return False
    address, ring, gone = value
    if not is_address(late.net.width, address) or not is_part(ring, late.net) or len(ring) == 0:
        return False
    try:
        net = late.at(gone)
    except InvalidGone:
        return False
    return leads_round(goals_at(net, address), ring)


def longest(late):
    """The most hops of a way at any moment; None if some address rings at some moment."""
    told = ranks(late)
    if told is None:
        return None
    return max([rank for ranked in told.values() for rank in ranked.values()], key=int) + 1


def ends(late, hop, address):
    """The sorted list of the ends that the address has from the hop at some moment."""
    heads = _heads_from(late, hop, address)
    told = [word for word in ENDS if any([word in goals for goals in heads.values()])]
    # Each hop may lead to each of its heads whatever the others do, so what the hop can come to by
    # its heads, and theirs, it comes to at some moment.
    leads = _leads_by(heads)
    if len(_ranked(leads)) < len(leads):
        told = [*told, "ring"]
    return sorted(told, key=str)


def sure_number(late, hop):
    """How many addresses end with "home" from the hop at every moment."""
    check_hop(late.net, hop)
    parts = [(many, address) for _, many, address in late.net.cells() if many > 0]
    return sum([many for many, address in parts if ends(late, hop, address) == ["home"]])


def _parts(late):
    """The sorted list of the tuples (stretch, first address) of all cells that are not empty."""
    return [(stretch, address) for stretch, many, address in late.net.cells() if many > 0]


def _leads(late, address):
    """The dict from all hops to the lists of the hops to which they may lead the address."""
    return _leads_by({hop: late.heads(hop, address) for hop in late.net.hops()})


def _leads_by(heads):
    """The dict from the hops of a dict from hops to heads to the heads that are among these hops."""
    return {hop: [goal for goal in goals if goal in heads] for hop, goals in heads.items()}


def _ranked(leads):
    """The dict from the hops from which no ring can be come to, to how many further hops can be."""
    told = {}
    # With each round at least one hop more is ranked, as long as there are some to be ranked.
    for _ in leads:
        for hop, goals in leads.items():
            if all([goal in told for goal in goals]):
                told[hop] = max([told[goal] for goal in goals], key=int, default=-1) + 1
    return told


def _ring(leads):
    """The tuple of the hops of a ring, each of which may lead to the next one; an empty one."""
    ranked = _ranked(leads)
    steps = {}
    # A hop that is not ranked may lead to another one that is not, and so on, round at last.
    for hop, goals in leads.items():
        if hop not in ranked:
            steps[hop] = [goal for goal in goals if goal not in ranked][0]
    if not steps:
        return ()
    return ring_by(steps, list(steps)[0])


def _rows_ahead(late, hop, address, goal):
    """The tuples (hop, stretch) of the rows that are gone if the hop leads the address to this head."""
    chain = late.chain(hop, address)
    goals = [late.net[hop][stretch] for stretch in chain]
    return [(hop, stretch) for stretch in chain[:goals.index(goal)]]


def _heads_from(late, hop, address):
    """The dict from the hops to which the address can come from the hop to their heads."""
    hops = [hop]
    heads = {}
    while len(heads) < len(hops):
        place = hops[len(heads)]
        goals = late.heads(place, address)
        heads[place] = goals
        hops.extend([goal for goal in goals if goal in late.net and goal not in hops])
    return heads


def are_ranks_by(leads, value):
    """Whether the value is a dict from all hops to COUNTS that fall wherever a hop leads, by a dict from
    all hops to the lists of the hops to which each may lead."""
    if not isinstance(value, dict) or len(value) != len(leads):
        return False
    if not all([hop in value and is_count(value[hop]) for hop in leads]):
        return False
    return all([value[hop] > value[goal] for hop, goals in leads.items() for goal in goals])
