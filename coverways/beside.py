"""Free stretches, and tables beside one another: alike ones, the one within a stretch, joined ones."""

from coverways.errors import InvalidFree, InvalidGoal, InvalidStretch, TooMany
from coverways.stretches import (MOST_WIDTH, cells, check_address, check_same_width, check_stretch, check_width,
                                 is_goal, is_stretch, longest_beginning)
from coverways.tables import Table

MOST_FREE = 20


def check_free(width, free):
    """InvalidWidth, InvalidFree unless it is a list of unlike stretches, TooMany."""
    check_width(width)
    if not isinstance(free, (list, tuple)):
        raise InvalidFree(None)
    for position, stretch in enumerate(free):
        if not is_stretch(width, stretch) or stretch in free[:position]:
            raise InvalidFree(position)
    if len(free) > MOST_FREE:
        raise TooMany("free", MOST_FREE)


def is_free(free, bits):
    """Whether one of the free stretches holds the bits."""
    return any([bits.startswith(stretch) for stretch in free])


def is_used(width, free, address):
    """Whether no free stretch holds the address."""
    check_free(width, free)
    check_address(width, address)
    return not is_free(free, address)


def used_number(width, free):
    """How many addresses are used."""
    check_free(width, free)
    return sum([many for many, _ in _used_cells(width, [], free)])


def numbers(table, free=()):
    """The dict from the goals of used addresses to how many of these have them."""
    check_free(table.width, free)
    told = {}
    for many, address in _used_cells(table.width, list(table.rows()), free):
        goal = table(address)
        told[goal] = told.get(goal, 0) + many
    return {goal: told[goal] for goal in sorted(told, key=str)}


def first_with(table, goal, free=()):
    """The first used address with the goal; None."""
    if not is_goal(goal):
        raise InvalidGoal(goal)
    check_free(table.width, free)
    parts = _used_cells(table.width, list(table.rows()), free)
    return _first_address([(many, address) for many, address in parts if table(address) == goal])


def is_alike(one, other, free=()):
    """Whether all used addresses have the same goals in both tables."""
    return len(_unlike_cells(one, other, free)) == 0


def first_unlike(one, other, free=()):
    """The first used address with unlike goals; None."""
    return _first_address(_unlike_cells(one, other, free))


def unlike_number(one, other, free=()):
    """How many used addresses have unlike goals."""
    return sum([many for many, _ in _unlike_cells(one, other, free)])


def within(table, stretch):
    """The table of the addresses that the stretch holds, without this beginning."""
    check_stretch(table.width, stretch)
    if len(stretch) == table.width:
        raise InvalidStretch(stretch)
    rows = table.rows()
    inner = {row.removeprefix(stretch): goal for row, goal in rows.items() if row.startswith(stretch)}
    outer = longest_beginning(rows, stretch)
    if outer is not None:
        inner = {"": rows[outer], **inner}
    return Table(table.width - len(stretch), inner)


def joined(zero, one):
    """The table with the rows of the first one behind 0, and those of the other one behind 1."""
    check_same_width(zero.width, one.width)
    if zero.width == MOST_WIDTH:
        raise TooMany("width", MOST_WIDTH)
    behind_zero = {"0" + stretch: goal for stretch, goal in zero.rows().items()}
    behind_one = {"1" + stretch: goal for stretch, goal in one.rows().items()}
    return Table(zero.width + 1, {**behind_zero, **behind_one})


def _used_cells(width, stretches, free):
    """The tuples (number of addresses, first address) of the cells with used addresses."""
    # The free stretches have cells of their own, so a cell is free or used as a whole.
    told = cells(width, [*stretches, *free])
    return [(many, address) for stretch, many, address in told if many > 0 and not is_free(free, stretch)]


def _unlike_cells(one, other, free):
    """The tuples (number of addresses, first address) of the used cells with unlike goals."""
    check_same_width(one.width, other.width)
    check_free(one.width, free)
    parts = _used_cells(one.width, [*one.rows(), *other.rows()], free)
    return [(many, address) for many, address in parts if one(address) != other(address)]


def _first_address(parts):
    """The first one of the addresses of tuples (number of addresses, first address); None."""
    return min([address for _, address in parts], key=str, default=None)
