"""What becomes of addresses for all withdrawn leaves: patterns, papers, falls, and least sets of hole rows."""

from coverways.errors import InvalidMembers
from coverways.gathered import goals_of, pattern_at, pattern_of, sender
from coverways.lists import first_wrong, is_list, is_part, is_sorted_part, subsets
from coverways.moments import are_ranks_by
from coverways.nets import leads_round, ring_by, rings_by, way_by
from coverways.stretches import check_address, is_address


def is_safe(gathered):
    """Whether no address rings, whatever is withdrawn."""
    return round_paper(gathered) is None


def round_paper(gathered):
    """A round paper; None."""
    for _, _, address in _parts(gathered):
        for pattern, withdrawn in _withdrawals(gathered, address).items():
            rings = rings_by(goals_of(gathered, pattern))
            if rings:
                return address, withdrawn, list(rings[0])
    return None


def is_round_paper(gathered, value):
    """Whether the value is a round paper."""
    if not isinstance(value, tuple) or len(value) != 3:
        return False
    address, withdrawn, ring = value
    if not is_address(gathered.width, address) or not is_sorted_part(withdrawn, gathered.leaves()):
        return False
    if not is_part(ring, gathered.hops()) or len(ring) == 0:
        return False
    return leads_round(goals_of(gathered, pattern_of(gathered, address, withdrawn)), ring)


def patterns(gathered, address):
    """The sorted list of the patterns of the address."""
    check_address(gathered.width, address)
    return list(_withdrawals(gathered, address))


def safe_ranks(gathered):
    """Safe ranks, the least ones: how many further hops an address passes; None."""
    told = {}
    for stretch, _, address in _parts(gathered):
        goals_by_pattern = _goals_by_pattern(gathered, address)
        if _can_ring(goals_by_pattern):
            return None
        told[stretch] = {pattern: _further_hops(goals) for pattern, goals in goals_by_pattern.items()}
    return told


def are_safe_ranks(gathered, value):
    """Whether the value is safe ranks."""
    parts = _parts(gathered)
    if not isinstance(value, dict) or len(value) != len(parts):
        return False
    return all([stretch in value and _are_ranks_at(gathered, address, value[stretch]) for stretch, _, address in parts])


def ringing_number(gathered):
    """How many addresses ring from some hop for some withdrawn leaves."""
    parts = _parts(gathered)
    return sum([many for _, many, address in parts if _can_ring(_goals_by_pattern(gathered, address))])


def falls(gathered, hop, address, withdrawn=()):
    """The sorted list of the names of the falls of the hop if the address comes to it again from it; []."""
    pattern = pattern_at(gathered, hop, address, withdrawn)
    if hop not in ring_by(goals_of(gathered, pattern), hop):
        return []
    return _falls_at(gathered, hop, pattern)


def is_enough(gathered, names):
    """Whether no address rings, whatever is withdrawn, when just these gatherers have hole rows."""
    if not is_list(names):
        raise InvalidMembers(None)
    position = first_wrong(names, gathered.gatherers())
    if position is not None:
        raise InvalidMembers(position)
    return _hits_all(names, _falls_of_rings(gathered))


def least_sets(gathered):
    """The sorted list of the sets of gatherers that are enough while no smaller part of them is."""
    told = []
    all_falls = _falls_of_rings(gathered)
    # Each set comes behind its parts, so a smaller one that is enough is known by then.
    for names in subsets(gathered.gatherers()):
        if _hits_all(names, all_falls) and not any([is_part(least, names) for least in told]):
            told.append(names)
    return _sorted_lists(told)


def _parts(gathered):
    """The sorted list of the tuples (stretch, number of addresses, first address) of all cells that are
    not empty."""
    return [(stretch, many, address) for stretch, many, address in gathered.cells() if many > 0]


def _withdrawals(gathered, address):
    """The dict from the patterns of the address, sorted, to withdrawn leaves for which it has them."""
    told = {}
    for withdrawn in subsets(gathered.leaves()):
        told.setdefault(tuple(pattern_of(gathered, address, withdrawn)), withdrawn)
    return {tuple(pattern): told[tuple(pattern)] for pattern in _sorted_lists(list(told))}


def _sorted_lists(lists):
    """The sorted list of lists of names."""
    # A blank is less than all letters, so the texts are sorted as the lists are.
    return [text.split() for text in sorted([" ".join(names) for names in lists], key=str)]


def _goals_by_pattern(gathered, address):
    """The dict from the patterns of the address, sorted, to the dicts from all hops to where they send it."""
    return {pattern: goals_of(gathered, pattern) for pattern in _withdrawals(gathered, address)}


def _can_ring(goals_by_pattern):
    """Whether an address with these goals by patterns rings for one of them."""
    return any([len(rings_by(goals)) > 0 for goals in goals_by_pattern.values()])


def _further_hops(goals):
    """The dict from all hops to how many further hops are passed from each, by goals without rings."""
    return {hop: len(way_by(goals, hop)) - 1 for hop in goals}


def _are_ranks_at(gathered, address, value):
    """Whether the value is a dict from all patterns of the address to ranks that fall there."""
    goals_by_pattern = _goals_by_pattern(gathered, address)
    if not isinstance(value, dict) or len(value) != len(goals_by_pattern):
        return False
    return all([pattern in value and are_ranks_by(_leads(goals), value[pattern])
                for pattern, goals in goals_by_pattern.items()])


def _leads(goals):
    """The dict from all hops to the lists of the hop to which each sends, empty ones if it is none."""
    return {hop: [goal] if goal in goals else [] for hop, goal in goals.items()}


def _falls_at(gathered, hop, pattern):
    """The sorted list of the names of the falls of a hop in a ring, for a pattern."""
    sent = gathered[sender(gathered, hop, pattern)]
    kept = [name for name in pattern if gathered[name].keeper == hop]
    # By a leaf, or a gatherer with a hole row, the hop would send instead, so the longer ones are neither.
    return [name for name in kept if len(gathered[name].stretch) > len(sent.stretch)]


def _falls_of_rings(gathered):
    """The list of the falls of the hops of each ring that there is without any hole rows."""
    bare = gathered
    for name in gathered.gatherers():
        bare = bare.without_hole(name)
    told = []
    for _, _, address in _parts(bare):
        for pattern, goals in _goals_by_pattern(bare, address).items():
            for ring in rings_by(goals):
                told.append([name for hop in ring for name in _falls_at(bare, hop, pattern)])
    return told


def _hits_all(names, all_falls):
    """Whether one of the names is among each of the falls, so that all of these rings are gone."""
    # A hole row more never makes a ring, so no other rings have to be looked for.
    return all([any([name in names for name in falls_of_ring]) for falls_of_ring in all_falls])
