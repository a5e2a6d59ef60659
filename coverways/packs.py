"""Paths through borders, and packs, which show that no alike table has fewer rows."""

from coverways.beside import check_free, is_free
from coverways.errors import InvalidAddress
from coverways.spare import ALL, sets_and_needs
from coverways.stretches import check_address, check_width, common, first, is_address


def path(width, begin, end):
    """The list of the tuples (stretch, "up" or "down") of the borders from one address to another."""
    check_width(width)
    if begin is not None and not is_address(width, begin):
        raise InvalidAddress(begin)
    check_address(width, end)
    if begin is None:
        return [(end[:length], "down") for length in range(width + 1)]
    shared = len(common(begin, end))
    ups = [(begin[:length], "up") for length in range(width, shared, -1)]
    downs = [(end[:length], "down") for length in range(shared + 1, width + 1)]
    return [*ups, *downs]


def pack(table, free=()):
    """A pack of as many tuples as the fewest rows.

    Each stretch with used addresses either lets paths in, or out. Into it one may come for each goal
    of its SET. Out of it one may go for each goal that is not in its SET. The longest stretches that
    are known have one goal, so paths can end, or begin, there, and what comes in or goes out further
    up finds its way down to them.
    """
    known = sets_and_needs(table, free)
    goals, _ = known[""]
    if goals == ALL:
        return []
    if "hole" in goals:
        return _pairs(table.width, known, False)
    outer = [(None, _end(table.width, known, "", goal)) for goal in goals]
    return [*outer, *_pairs(table.width, known, True)]


def is_pack(table, value, free=()):
    """Whether the value is a pack."""
    check_free(table.width, free)
    if not isinstance(value, (list, tuple)):
        return False
    if not all([_is_pair(table, free, pair) for pair in value]):
        return False
    return _keep_clear(table, value)


def _pairs(width, known, lets_in):
    """The tuples (begin, end) of the paths that do not come from outside; whether "" lets paths in."""
    pairs = []
    waiting = [("", lets_in)]
    while waiting:
        stretch, lets_in = waiting.pop()
        stretch = _fork(known, stretch)
        if _is_even(known, stretch):
            continue
        zero, one = stretch + "0", stretch + "1"
        if lets_in == _are_apart(known, zero, one):
            waiting.extend([(zero, lets_in), (one, lets_in)])
            continue
        waiting.extend([(zero, True), (one, False)])
        crossing = [goal for goal in known[zero][0] if goal not in known[one][0]]
        pairs.extend([(_begin(width, known, one, goal), _end(width, known, zero, goal)) for goal in crossing])
    return pairs


def _is_even(known, stretch):
    """Whether all used addresses of the stretch are known to have one goal."""
    return stretch + "0" not in known


def _fork(known, stretch):
    """The longest known stretch that holds all used addresses of the stretch."""
    while not _is_even(known, stretch):
        zero, one = stretch + "0", stretch + "1"
        if known[zero][0] != ALL and known[one][0] != ALL:
            break
        stretch = one if known[zero][0] == ALL else zero
    return stretch


def _are_apart(known, zero, one):
    """Whether the SETS of the two stretches have no goal in common."""
    return not any([goal in known[one][0] for goal in known[zero][0]])


def _end(width, known, stretch, goal):
    """Where a path to the goal, one of the SET, ends in a stretch that lets paths in."""
    return _foot(width, known, stretch, goal, "0")


def _begin(width, known, stretch, goal):
    """Where a path to the goal, not one of the SET, begins in a stretch that lets paths out."""
    return _foot(width, known, stretch, goal, "1")


def _foot(width, known, stretch, goal, asked):
    """The first address of the stretch at which one arrives that goes down to 0 where the SET of the
    half that is asked has the goal, otherwise to 1."""
    stretch = _fork(known, stretch)
    while not _is_even(known, stretch):
        half = "0" if goal in known[stretch + asked][0] else "1"
        stretch = _fork(known, stretch + half)
    return first(width, stretch)


def _is_pair(table, free, pair):
    """Whether it is a tuple of a used address, or None, and a used address, with unlike goals."""
    if not isinstance(pair, tuple) or len(pair) != 2:
        return False
    begin, end = pair
    if not _is_used_address(table.width, free, end):
        return False
    if begin is None:
        return table(end) != "hole"
    return _is_used_address(table.width, free, begin) and table(begin) != table(end)


def _is_used_address(width, free, value):
    return is_address(width, value) and not is_free(free, value)


def _keep_clear(table, pairs):
    """Whether the paths go each border in one direction, and their ends there have unlike goals."""
    directions = {}
    passed = {}
    for begin, end in pairs:
        goal = table(end)
        for stretch, direction in path(table.width, begin, end):
            if directions.setdefault(stretch, direction) != direction or (stretch, goal) in passed:
                return False
            passed[stretch, goal] = True
    return True
