"""Late nets: firm rows, and loose ones of which any may be gone at a moment."""

from coverways.errors import InvalidFirm, InvalidGone, UnknownStretch
from coverways.lists import first_wrong, is_list, is_part
from coverways.nets import Net, check_hop
from coverways.stretches import check_address
from coverways.tables import Table


class Late:
    """A net some of whose rows are firm, the others loose; it never changes."""

    def __init__(self, net, firm=None):
        if firm is None:
            firm = {}
        if not _is_firm(net, firm):
            raise InvalidFirm(firm)
        self._net = net
        self._firm = {hop: sorted(list(firm.get(hop, [])), key=str) for hop in net.hops()}

    @property
    def net(self):
        """The net of all rows."""
        return self._net

    def firm(self):
        """The dict from all hops to the sorted lists of the stretches of their firm rows."""
        return {hop: list(stretches) for hop, stretches in self._firm.items()}

    def loose(self):
        """The sorted list of the tuples (hop, stretch) of loose rows."""
        rows = [(hop, stretch) for hop in self._net.hops() for stretch in self._net[hop].rows()]
        return [(hop, stretch) for hop, stretch in rows if stretch not in self._firm[hop]]

    def chain(self, hop, address):
        """The list of the stretches of the rows that hold the address, up to the first firm one."""
        check_hop(self._net, hop)
        check_address(self._net.width, address)
        rows = self._net[hop].rows()
        told = []
        for length in range(len(address), -1, -1):
            stretch = address[:length]
            if stretch in rows:
                told.append(stretch)
            if stretch in self._firm[hop]:
                break
        return told

    def heads(self, hop, address):
        """The list of the unlike goals of the chain, with "hole" at the end if none of it is firm."""
        chain = self.chain(hop, address)
        goals = [self._net[hop][stretch] for stretch in chain]
        if not chain or chain[-1] not in self._firm[hop]:
            goals = [goal for goal in goals if goal != "hole"] + ["hole"]
        return [goal for at, goal in enumerate(goals) if goal not in goals[:at]]

    def at(self, gone):
        """The net of the moment at which just these loose rows are gone."""
        if not is_list(gone):
            raise InvalidGone(None)
        position = first_wrong(gone, self.loose())
        if position is not None:
            raise InvalidGone(position)
        return Net({hop: self._table_without(hop, gone) for hop in self._net.hops()})

    def made_firm(self, hop, stretch):
        """The late net with this row firm."""
        return Late(self._net, {**self._firm, hop: [*self._others(hop, stretch), stretch]})

    def made_loose(self, hop, stretch):
        """The late net with this row loose."""
        return Late(self._net, {**self._firm, hop: self._others(hop, stretch)})

    def __le__(self, other):
        if not isinstance(other, Late):
            return NotImplemented
        if self._net != other._net:
            return False
        return all([stretch in other._firm[hop] for hop, stretches in self._firm.items() for stretch in stretches])

    def __ge__(self, other):
        if not isinstance(other, Late):
            return NotImplemented
        return other <= self

    def __eq__(self, other):
        return isinstance(other, Late) and self._net == other._net and self._firm == other._firm

    def __repr__(self):
        return f"Late({self._net!r}, {self._firm!r})"

    def _others(self, hop, stretch):
        """The stretches of the firm rows of the hop but this one, which is that of a row there."""
        if stretch not in self._net[hop]:
            raise UnknownStretch(stretch)
        return [row for row in self._firm[hop] if row != stretch]

    def _table_without(self, hop, gone):
        """The table of the hop without the rows that are gone."""
        rows = self._net[hop].rows()
        left = {stretch: goal for stretch, goal in rows.items() if (hop, stretch) not in gone}
        return Table(self._net.width, left)


def _is_firm(net, value):
    """Whether it is a dict from some hops to lists of unlike stretches of rows."""
    if not isinstance(value, dict):
        return False
    return all([hop in net and is_part(stretches, net[hop]) for hop, stretches in value.items()])
