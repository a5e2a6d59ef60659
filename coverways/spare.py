"""The fewest rows of a table that is alike, and the spare table, which has just so many."""

from coverways.beside import check_free
from coverways.stretches import check_stretch, longest_beginning
from coverways.tables import Table

# The SET of a stretch all of whose addresses are free.
ALL = "all"


def set_at(table, stretch, free=()):
    """The sorted list of the goals of the SET of the stretch, or "all"."""
    goals, _ = _told_at(table, stretch, free)
    if goals == ALL:
        return ALL
    return list(goals)


def need_at(table, stretch, free=()):
    """The NEED of the stretch."""
    _, need = _told_at(table, stretch, free)
    return need


def fewest(table, free=()):
    """How many rows a table has at least that is alike."""
    goals, need = sets_and_needs(table, free)[""]
    if goals == ALL or "hole" in goals:
        return need
    return need + 1


def spare(table, free=()):
    """The table that is alike and has the fewest rows."""
    known = sets_and_needs(table, free)
    inherited = {"": "hole"}
    rows = {}
    # Shorter stretches come first, so what a stretch inherits is known when it is its turn.
    for stretch in sorted(known, key=len):
        goals, _ = known[stretch]
        goal = inherited[stretch]
        if goals != ALL and goal not in goals:
            goal = goals[0]
            rows[stretch] = goal
        inherited[stretch + "0"] = goal
        inherited[stretch + "1"] = goal
    return Table(table.width, rows)


def is_spare(table, free=()):
    """Whether no alike table has fewer rows."""
    return len(table) == fewest(table, free)


def sets_and_needs(table, free):
    """The dict from "" and both halves of each stretch that holds longer ones of the rows, or longer
    free ones, to the tuples (SET, NEED): a SET is a sorted list of goals, or "all"."""
    check_free(table.width, free)
    inner = _holders([*table.rows(), *free])
    known = {stretch: (_even_set(goal), 0) for stretch, goal in _even_goals(table, free, inner).items()}
    for stretch in reversed(list(inner)):
        known[stretch] = _of_halves(known[stretch + "0"], known[stretch + "1"])
    return known


def _told_at(table, stretch, free):
    """The tuple (SET, NEED) of the stretch."""
    check_stretch(table.width, stretch)
    known = sets_and_needs(table, free)
    # Within a stretch that is known, but not its halves, all addresses are the same.
    return known[longest_beginning(known, stretch)]


def _holders(stretches):
    """The list, shorter ones first, of all stretches that hold a longer one of the stretches."""
    inner = {}
    for stretch in stretches:
        for length in range(len(stretch)):
            inner[stretch[:length]] = True
    return sorted(inner, key=len)


def _even_goals(table, free, inner):
    """The dict from "" and the halves of the inner stretches to the goal, or "all", that all their
    addresses have which no longer row, and no longer free stretch, holds."""
    rows = {**table.rows(), **{stretch: ALL for stretch in free}}
    goals = {"": rows.get("", "hole")}
    for stretch in inner:
        for half in (stretch + "0", stretch + "1"):
            goals[half] = ALL if goals[stretch] == ALL else rows.get(half, goals[stretch])
    return goals


def _even_set(goal):
    """The SET of a stretch all of whose addresses have the goal, or are free."""
    if goal == ALL:
        return ALL
    return [goal]


def _of_halves(zero, one):
    """The tuple (SET, NEED) of a stretch of whose halves these are the tuples."""
    zero_goals, zero_need = zero
    one_goals, one_need = one
    need = zero_need + one_need
    if zero_goals == ALL:
        return one_goals, need
    if one_goals == ALL:
        return zero_goals, need
    both = [goal for goal in zero_goals if goal in one_goals]
    if both:
        return both, need
    return sorted([*zero_goals, *one_goals], key=str), need + 1
