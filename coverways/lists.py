"""Lists that callers pass: unlike values out of known ones."""


def is_list(value):
    """Whether the value may stand where a list is asked for."""
    return isinstance(value, (list, tuple))


def first_wrong(values, known):
    """The position of the first of the values that is not known, or stands ahead; None."""
    for position, value in enumerate(values):
        if value not in known or value in values[:position]:
            return position
    return None


def is_part(value, known):
    """Whether the value is a list of unlike ones of the known values."""
    return is_list(value) and first_wrong(value, known) is None


def is_sorted_part(value, known):
    """Whether the value is a sorted list of unlike ones of the known strings."""
    return is_part(value, known) and list(value) == sorted(list(value), key=str)


def subsets(names):
    """The list of all lists of some of the names, in their sequence; each one stands behind its parts."""
    told = [[]]
    for name in names:
        told = [*told, *[[*some, name] for some in told]]
    return told
