"""Texts of tables, nets, late nets and gathered nets, and the objects that are read from them."""

from coverways.errors import InvalidText
from coverways.gathered import Gathered, members_of
from coverways.items import Closed, Gatherer, Leaf
from coverways.late import Late
from coverways.nets import Net
from coverways.stretches import MOST_WIDTH, is_goal, is_name, is_stretch
from coverways.tables import Table

# What stands for the stretch "".
ALL = "-"

# What follows the first word of a line, behind the first line.
SHAPES = {
    "row": ("stretch", "goal"),
    "firm": ("stretch", "goal"),
    "hop": ("name",),
    "leaf": ("name", "stretch", "name"),
    "gatherer": ("name", "stretch", "name", "hole"),
    "member": ("name",),
    "way": ("name", "name"),
}


def text_of(entry):
    """The text of a table, a net, a late net or a gathered net."""
    return "\n".join([*_lines_of(entry), ""])


def bytes_of(entry):
    """The text as bytes."""
    return text_of(entry).encode("ascii")


def read_table(text):
    """The table with this text."""
    lines = Lines(text, "table")
    rows = lines.run(("row",), 0)
    lines.finish()
    return _table_of(lines.most, rows)


def read_net(text):
    """The net with this text."""
    lines = Lines(text, "net")
    return _net_of(lines.most, _read_hops(lines, ("row",)))


def read_late(text):
    """The late net with this text."""
    lines = Lines(text, "late")
    hops = _read_hops(lines, ("row", "firm"))
    net = _net_of(lines.most, hops)
    return Late(net, {hop: [_stretch_of(row[1]) for row in rows if row[0] == "firm"] for hop, rows in hops})


def read_gathered(text):
    """The gathered net with this text."""
    lines = Lines(text, "gathered")
    told = []
    item = None
    while item is None or not lines.are_over():
        item = lines.take(("leaf", "gatherer"), item)
        members = lines.run(("member",), 1) if item[0] == "gatherer" else []
        told.append((item, members, lines.run(("way",), 0)))
    return Gathered(lines.most, [_item_of(item, members, ways) for item, members, ways in told])


class Lines:
    """The lines of a text, as lists of words, that are taken one after the other; InvalidText with the
    number of the first one that is wrong."""

    def __init__(self, text, word):
        if not isinstance(text, str):
            raise InvalidText(1)
        lines = text.split("\n")
        # Behind the last line feed there is nothing. A line without one is wrong, as an empty one is.
        last = [] if lines[-1] == "" else [""]
        self._lines = [line.split(" ") for line in [*lines[:-1], *last]]
        self._at = 1
        # The most bits of a stretch, which is the width that the first line tells.
        self.most = _told_width(self._lines[:1], word)

    def are_over(self):
        """Whether no line is left."""
        return self._at == len(self._lines)

    def take(self, words, before):
        """The next line, which begins with one of the words, and whose second word has to be behind that
        of the line that was taken before, if there is one."""
        if not self._begins_with(words) or not self._is_right(self._lines[self._at], before):
            raise InvalidText(self._at + 1)
        self._at = self._at + 1
        return self._lines[self._at - 1]

    def run(self, words, least):
        """The list of the next lines that begin with one of the words, at least so many."""
        taken = []
        while self._begins_with(words) or len(taken) < least:
            taken.append(self.take(words, taken[-1] if taken else None))
        return taken

    def finish(self):
        """InvalidText if a line is left."""
        if not self.are_over():
            raise InvalidText(self._at + 1)

    def _begins_with(self, words):
        """Whether there is a next line, and it begins with one of the words."""
        return not self.are_over() and self._lines[self._at][0] in words

    def _is_right(self, line, before):
        """Whether the line has the shape that its first word tells, and is behind the one before."""
        shape = SHAPES[line[0]]
        if len(line) != len(shape) + 1:
            return False
        if not all([_is_of(kind, self.most, word) for kind, word in zip(shape, line[1:])]):
            return False
        # The sign that stands for "" is less than all bits, as "" is.
        return before is None or before[1] < line[1]


def _told_width(lines, word):
    """The width that the first line tells behind the word."""
    for width in range(1, MOST_WIDTH + 1):
        if lines == [[word, str(width)]]:
            return width
    raise InvalidText(1)


def _is_of(kind, width, word):
    """Whether the word is of the kind, in an object of the width."""
    if kind == "stretch":
        return word == ALL or (word != "" and is_stretch(width, word))
    if kind == "goal":
        return is_goal(word)
    if kind == "hole":
        return word in ("open", "hole")
    return is_name(word)


def _read_hops(lines, words):
    """The list of the tuples (name, lines of its rows) of all hops, at least one."""
    hops = []
    hop = None
    while hop is None or not lines.are_over():
        hop = lines.take(("hop",), hop)
        hops.append((hop[1], lines.run(words, 0)))
    return hops


def _table_of(width, rows):
    """The table of lines of rows."""
    return Table(width, {_stretch_of(row[1]): row[2] for row in rows})


def _net_of(width, hops):
    """The net of tuples (name, lines of its rows)."""
    return Net({hop: _table_of(width, rows) for hop, rows in hops})


def _item_of(line, members, ways):
    """The item of its own line, and those of its members and of its way."""
    name, stretch, keeper = line[1], _stretch_of(line[2]), line[3]
    way = {step[1]: step[2] for step in ways}
    if line[0] == "leaf":
        return Leaf(name, stretch, keeper, way)
    names = [member[1] for member in members]
    if line[4] == "hole":
        return Closed(name, stretch, keeper, names, way)
    return Gatherer(name, stretch, keeper, names, way)


def _stretch_of(word):
    """The stretch for which the word stands."""
    return "" if word == ALL else word


def _word_of(stretch):
    """The word that stands for the stretch."""
    return ALL if stretch == "" else stretch


def _lines_of(entry):
    """The list of the lines of the text."""
    if isinstance(entry, Table):
        return [f"table {entry.width}", *_row_lines(entry, [])]
    if isinstance(entry, Net):
        return [f"net {entry.width}", *_hop_lines(entry, {})]
    if isinstance(entry, Late):
        return [f"late {entry.net.width}", *_hop_lines(entry.net, entry.firm())]
    return [f"gathered {entry.width}", *[line for name in entry.names() for line in _item_lines(entry[name])]]


def _row_lines(table, firm):
    """The lines of the rows of a table, of which some are firm."""
    words = {stretch: "firm" if stretch in firm else "row" for stretch in table.rows()}
    return [f"{word} {_word_of(stretch)} {table[stretch]}" for stretch, word in words.items()]


def _hop_lines(net, firm):
    """The lines of the hops of a net, and of their rows."""
    return [line for hop in net.hops() for line in [f"hop {hop}", *_row_lines(net[hop], firm.get(hop, []))]]


def _item_lines(item):
    """The lines of an item."""
    place = f"{item.name} {_word_of(item.stretch)} {item.keeper}"
    ways = [f"way {hop} {goal}" for hop, goal in item.way().items()]
    if isinstance(item, Leaf):
        return [f"leaf {place}", *ways]
    hole = "hole" if isinstance(item, Closed) else "open"
    return [f"gatherer {place} {hole}", *[f"member {name}" for name in members_of(item)], *ways]
