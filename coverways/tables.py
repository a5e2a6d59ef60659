"""Tables: rows that tell for all addresses with some beginning to which goal they go."""

from coverways.errors import InvalidRows, TooMany, UnknownStretch
from coverways.stretches import (cells, check_address, check_same_width, check_width, is_goal, is_stretch,
                                 longest_beginning)


class Table:
    """A width and its rows, which never change: the longest stretch that holds an address counts."""

    MOST_ROWS = 40

    def __init__(self, width, rows=None):
        check_width(width)
        if rows is None:
            rows = {}
        if not is_rows(width, rows):
            raise InvalidRows(rows)
        if len(rows) > self.MOST_ROWS:
            raise TooMany("rows", self.MOST_ROWS)
        self._width = width
        self._rows = {stretch: rows[stretch] for stretch in sorted(rows, key=str)}

    @staticmethod
    def of(width, *rows):
        """The table of tuples (stretch, goal); of equal stretches the last one counts."""
        check_width(width)
        for row in rows:
            if not is_row(width, row):
                raise InvalidRows(row)
        return Table(width, dict(rows))

    @property
    def width(self):
        """The width of the addresses."""
        return self._width

    def rows(self):
        """The dict from the stretches of the rows, sorted, to their goals."""
        return dict(self._rows)

    def row(self, address):
        """The longest stretch of a row that holds the address; None."""
        check_address(self._width, address)
        return longest_beginning(self._rows, address)

    def cells(self):
        """The cells of the stretches of the rows."""
        return cells(self._width, list(self._rows))

    def __call__(self, address):
        stretch = self.row(address)
        if stretch is None:
            return "hole"
        return self._rows[stretch]

    def __getitem__(self, at):
        if at not in self:
            raise UnknownStretch(at)
        return self._rows[at]

    def __iter__(self):
        raise TypeError("a table is not iterated over")

    def __len__(self):
        return len(self._rows)

    def __contains__(self, x):
        return isinstance(x, str) and x in self._rows

    def __add__(self, other):
        if not is_row(self._width, other):
            raise InvalidRows(other)
        return Table(self._width, {**self._rows, other[0]: other[1]})

    def __radd__(self, other):
        return self + other

    def __sub__(self, other):
        if other not in self:
            raise UnknownStretch(other)
        return Table(self._width, {stretch: goal for stretch, goal in self._rows.items() if stretch != other})

    def __or__(self, other):
        check_same_width(self._width, other._width)
        return Table(self._width, {**self._rows, **other._rows})

    def __le__(self, other):
        if not isinstance(other, Table):
            return NotImplemented
        if self._width != other._width:
            return False
        return all([other._rows.get(stretch) == goal for stretch, goal in self._rows.items()])

    def __ge__(self, other):
        if not isinstance(other, Table):
            return NotImplemented
        return other <= self

    def __eq__(self, other):
        return isinstance(other, Table) and self._width == other._width and self._rows == other._rows

    def __repr__(self):
        if len(self._rows) == 0:
            return f"Table({self._width})"
        return f"Table({self._width}, {self._rows!r})"


def is_row(width, value):
    """Whether the value is a tuple (stretch, goal) of the width."""
    if not isinstance(value, tuple) or len(value) != 2:
        return False
    return is_stretch(width, value[0]) and is_goal(value[1])


def is_rows(width, value):
    """Whether the value is a dict from stretches of the width to goals, however many."""
    if not isinstance(value, dict):
        return False
    return all([is_stretch(width, stretch) and is_goal(goal) for stretch, goal in value.items()])
