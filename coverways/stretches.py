"""Widths, bits, names, goals, addresses, stretches, and the cells of some stretches."""

from coverways.errors import InvalidAddress, InvalidStretch, InvalidStretches, InvalidWidth, OtherWidth

MOST_WIDTH = 100
MOST_LETTERS = 6
LETTERS = "abcdefghijklmnopqrstuvwxyz"
ENDS = ("home", "hole")
NO_NAMES = ("home", "hole", "ring", "all", "none")


def is_count(value):
    """Whether the value is a COUNT."""
    return isinstance(value, int) and not isinstance(value, bool) and value >= 0


def is_width(value):
    """Whether the value is a WIDTH."""
    return is_count(value) and 1 <= value <= MOST_WIDTH


def is_bits(value):
    """Whether the value is a string of 0 and 1, perhaps empty."""
    return isinstance(value, str) and all([bit in "01" for bit in value])


def is_name(value):
    """Whether the value is a NAME."""
    if not isinstance(value, str) or not 1 <= len(value) <= MOST_LETTERS:
        return False
    return value not in NO_NAMES and all([letter in LETTERS for letter in value])


def is_goal(value):
    """Whether the value is a GOAL."""
    return is_name(value) or (isinstance(value, str) and value in ENDS)


def is_address(width, value):
    """Whether the value is an ADDRESS of the width."""
    return is_stretch(width, value) and len(value) == width


def is_stretch(width, value):
    """Whether the value is a STRETCH of the width."""
    check_width(width)
    return is_bits(value) and len(value) <= width


def check_width(width):
    """InvalidWidth unless it is a WIDTH."""
    if not is_width(width):
        raise InvalidWidth(width)


def check_stretch(width, stretch):
    """InvalidWidth, or InvalidStretch unless it is a stretch of the width."""
    if not is_stretch(width, stretch):
        raise InvalidStretch(stretch)


def check_stretches(width, stretches):
    """InvalidWidth, or InvalidStretches unless it is a list of stretches, perhaps equal ones."""
    check_width(width)
    if not isinstance(stretches, (list, tuple)):
        raise InvalidStretches(None)
    for position, stretch in enumerate(stretches):
        if not is_stretch(width, stretch):
            raise InvalidStretches(position)


def check_address(width, address):
    """InvalidWidth, or InvalidAddress unless it is an address of the width."""
    if not is_address(width, address):
        raise InvalidAddress(address)


def check_same_width(one, other):
    """OtherWidth unless the two widths are equal."""
    if one != other:
        raise OtherWidth(one, other)


def number(width, stretch):
    """How many addresses the stretch holds."""
    check_stretch(width, stretch)
    many = 1
    for _ in range(width - len(stretch)):
        many = many * 2
    return many


def first(width, stretch):
    """The first address that the stretch holds."""
    check_stretch(width, stretch)
    return stretch.ljust(width, "0")


def last(width, stretch):
    """The last address that the stretch holds."""
    check_stretch(width, stretch)
    return stretch.ljust(width, "1")


def common(one, other):
    """The longest stretch that holds both of two strings of bits."""
    for bits in (one, other):
        if not is_bits(bits):
            raise InvalidStretch(bits)
    length = 0
    for left, right in zip(one, other):
        if left != right:
            break
        length = length + 1
    return one[:length]


def cells(width, stretches):
    """The sorted tuples (stretch, number of addresses, first address or None) of all cells."""
    check_stretches(width, stretches)
    inside = _widest_inside(_with_all(stretches))
    return [_cell(width, stretch, inner) for stretch, inner in inside.items()]


def cell_of(width, stretches, address):
    """The stretch of the cell to which the address belongs."""
    check_stretches(width, stretches)
    check_address(width, address)
    return longest_beginning(_with_all(stretches), address)


def first_addresses(width, stretches):
    """The sorted list of the first addresses of all cells of the stretches that are not empty."""
    # What is so for the first one of all addresses is so for its whole cell, so it is first there.
    return sorted([address for _, many, address in cells(width, stretches) if many > 0], key=str)


def longest_beginning(known, bits):
    """The longest key of the dict with which the bits begin, the bits themselves too; None."""
    for length in range(len(bits), -1, -1):
        if bits[:length] in known:
            return bits[:length]
    return None


def _with_all(stretches):
    """The stretches and that of all addresses, as the sorted keys of a dict."""
    return {stretch: True for stretch in sorted(["", *stretches], key=str)}


def _widest_inside(known):
    """The dict from each known stretch to the sorted widest of the known ones inside it."""
    inside = {stretch: [] for stretch in known}
    for stretch in known:
        if stretch != "":
            inside[longest_beginning(known, stretch[:-1])].append(stretch)
    return inside


def _cell(width, stretch, inner):
    """The tuple of the cell of the stretch, of which the inner ones are taken out."""
    many = number(width, stretch) - sum([number(width, part) for part in inner])
    if many == 0:
        return stretch, 0, None
    # The inner stretches are sorted and apart from one another, so the first gap stands where
    # one of them does not begin at the place behind the one ahead of it.
    place = int(first(width, stretch), 2)
    for part in inner:
        if int(first(width, part), 2) != place:
            break
        place = place + number(width, part)
    return stretch, many, f"{place:b}".zfill(width)
