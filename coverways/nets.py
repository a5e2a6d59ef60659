"""Nets: hops with a table each, and the ways, ends and fates of addresses in them."""

from coverways.errors import InvalidTables, OtherWidth, TooMany, UnknownGoal, UnknownHop
from coverways.stretches import cells, is_name
from coverways.tables import Table


class Net:
    """From 1 to 6 hops and their tables, which never change."""

    MOST_HOPS = 6
    MOST_ROWS = 70

    def __init__(self, tables):
        if not _is_tables(tables):
            raise InvalidTables(tables)
        _check_widths(tables)
        _check_goals(tables)
        if len(tables) > self.MOST_HOPS:
            raise TooMany("hops", self.MOST_HOPS)
        if _number_of_rows(tables) > self.MOST_ROWS:
            raise TooMany("rows", self.MOST_ROWS)
        self._tables = {hop: tables[hop] for hop in sorted(tables, key=str)}

    @property
    def width(self):
        """The width of the addresses."""
        return [table.width for table in self._tables.values()][0]

    @property
    def many_rows(self):
        """How many rows there are together."""
        return _number_of_rows(self._tables)

    def hops(self):
        """The sorted list of the hops."""
        return list(self._tables)

    def cells(self):
        """The cells of the stretches of all rows."""
        return cells(self.width, stretches_of(self))

    def with_table(self, hop, table):
        """The net with another table at a hop, or at a hop more."""
        if not is_name(hop):
            raise InvalidTables(hop)
        return Net({**self._tables, hop: table})

    def way(self, hop, address):
        """The list of the hops that the address passes from the hop."""
        check_hop(self, hop)
        return way_by(goals_at(self, address), hop)

    def end(self, hop, address):
        """How the way of the address from the hop ends: "home", "hole" or "ring"."""
        return self.fate(hop, address)[0]

    def fate(self, hop, address):
        """The tuple of the end and the last hop of the way, but of a ring the first one, sorted."""
        check_hop(self, hop)
        return fate_by(goals_at(self, address), hop)

    def __call__(self, hop, address):
        table = self[hop]
        return table(address)

    def __getitem__(self, at):
        check_hop(self, at)
        return self._tables[at]

    def __iter__(self):
        raise TypeError("a net is not iterated over")

    def __len__(self):
        return len(self._tables)

    def __contains__(self, x):
        return isinstance(x, str) and x in self._tables

    def __eq__(self, other):
        return isinstance(other, Net) and self._tables == other._tables

    def __repr__(self):
        return f"Net({self._tables!r})"


def check_hop(net, hop):
    """UnknownHop unless it is a hop of the net."""
    if hop not in net:
        raise UnknownHop(hop)


def stretches_of(net):
    """The list of the stretches of all rows of the net, equal ones several times."""
    return [stretch for hop in net.hops() for stretch in net[hop].rows()]


def goals_at(net, address):
    """The dict from all hops to the goals of the address there; InvalidAddress."""
    return {hop: net(hop, address) for hop in net.hops()}


def way_by(goals, hop):
    """The list of the hops that are passed from the hop by a dict from all hops to goals."""
    hops = [hop]
    goal = goals[hop]
    while goal in goals and goal not in hops:
        hops.append(goal)
        goal = goals[goal]
    return hops


def ring_by(goals, hop):
    """The tuple of the hops that are passed again and again from the hop, the first one, sorted, ahead;
    an empty one if the way ends."""
    hops = way_by(goals, hop)
    goal = goals[hops[-1]]
    if goal not in goals:
        return ()
    ring = hops[hops.index(goal):]
    start = ring.index(min(ring, key=str))
    return tuple([*ring[start:], *ring[:start]])


def rings_by(goals):
    """The sorted list of all rings by a dict from all hops, sorted, to goals."""
    told = {hop: ring_by(goals, hop) for hop in goals}
    # Each ring is told at that of its hops which is the first one, sorted.
    return [ring for hop, ring in told.items() if ring and ring[0] == hop]


def leads_round(goals, ring):
    """Whether each hop of the list leads to the next one, and the last one to the first one."""
    return all([goals[ring[at - 1]] == hop for at, hop in enumerate(ring)])


def fate_by(goals, hop):
    """The tuple of the end and the hop that tells where, by a dict from all hops to goals."""
    ring = ring_by(goals, hop)
    if ring:
        return "ring", ring[0]
    final = way_by(goals, hop)[-1]
    return goals[final], final


def _is_tables(value):
    """Whether the value is a dict from at least one NAME to tables, however many."""
    if not isinstance(value, dict) or len(value) == 0:
        return False
    return all([is_name(hop) and isinstance(table, Table) for hop, table in value.items()])


def _check_widths(tables):
    """OtherWidth unless all tables have the width of that of the first hop, sorted."""
    widths = [tables[hop].width for hop in sorted(tables, key=str)]
    for width in widths:
        if width != widths[0]:
            raise OtherWidth(widths[0], width)


def _check_goals(tables):
    """UnknownGoal unless all goals that are names are hops."""
    goals = [goal for table in tables.values() for goal in table.rows().values()]
    for goal in sorted(goals, key=str):
        if is_name(goal) and goal not in tables:
            raise UnknownGoal(goal)


def _number_of_rows(tables):
    return sum([len(table) for table in tables.values()])
