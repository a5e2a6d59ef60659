"""Claims about tables and nets, and the papers that show that they are true."""

from coverways.beside import check_free, first_unlike, is_alike, is_free
from coverways.errors import InvalidClaim, InvalidFree, TooMany
from coverways.gathered import Gathered
from coverways.late import Late
from coverways.moments import are_ranks, is_ring_paper, ranks, ring_paper
from coverways.nets import Net
from coverways.orders import family, first_order, is_family, is_in_limits, is_order, is_word
from coverways.packs import is_pack, pack
from coverways.spare import spare
from coverways.stretches import is_address, is_count
from coverways.tables import Table
from coverways.withdrawals import are_safe_ranks, is_round_paper, round_paper, safe_ranks

# The words of claims, by what they are about.
OF_ROWS = ("fewer", "more")
OF_TABLES = ("unlike",)
OF_LATE_NETS = ("safe late", "rings late")
OF_GATHERED_NETS = ("safe", "rings")
OF_ORDERS = ("order", "no order")


def is_claim(value):
    """Whether the value is a claim."""
    if not isinstance(value, tuple) or len(value) == 0:
        return False
    word, parts = value[0], value[1:]
    if word in OF_ROWS:
        return _are_rows(parts)
    if word in OF_TABLES:
        return _are_tables(parts)
    if word in OF_LATE_NETS:
        return len(parts) == 1 and isinstance(parts[0], Late)
    if word in OF_GATHERED_NETS:
        return len(parts) == 1 and isinstance(parts[0], Gathered)
    return word in OF_ORDERS and _are_orders(parts)


def is_true(claim):
    """Whether the claim is true."""
    return paper_of(claim) is not None


def paper_of(claim):
    """A paper of the claim; None if it is not true."""
    _check_claim(claim)
    word, parts = claim[0], claim[1:]
    if word == "fewer":
        return _small_table(*parts)
    if word == "more":
        return _great_pack(*parts)
    if word == "unlike":
        return first_unlike(*parts)
    if word == "safe late":
        return ranks(*parts)
    if word == "rings late":
        return ring_paper(*parts)
    if word == "safe":
        return safe_ranks(*parts)
    if word == "rings":
        return round_paper(*parts)
    if word == "order":
        return first_order(*parts)
    return family(*parts)


def is_paper(claim, value):
    """Whether the value is a paper of the claim."""
    _check_claim(claim)
    word, parts = claim[0], claim[1:]
    if word == "fewer":
        return _is_small_table(*parts, value)
    if word == "more":
        return _is_great_pack(*parts, value)
    if word == "unlike":
        return _is_unlike_address(*parts, value)
    if word == "safe late":
        return are_ranks(*parts, value)
    if word == "rings late":
        return is_ring_paper(*parts, value)
    if word == "safe":
        return are_safe_ranks(*parts, value)
    if word == "rings":
        return is_round_paper(*parts, value)
    old, new, good = parts
    if word == "order":
        return is_order(old, new, value, good)
    return is_family(old, new, value, good)


def _check_claim(claim):
    """InvalidClaim unless it is a claim."""
    if not is_claim(claim):
        raise InvalidClaim(claim)


def _are_rows(parts):
    """Whether it is a table, free stretches of it, and a COUNT."""
    if len(parts) != 3 or not isinstance(parts[0], Table):
        return False
    table, free, many = parts
    return _are_free(table.width, free) and is_count(many)


def _are_tables(parts):
    """Whether it is two tables of one width, and free stretches of it."""
    if len(parts) != 3 or not isinstance(parts[0], Table) or not isinstance(parts[1], Table):
        return False
    table, other, free = parts
    return table.width == other.width and _are_free(table.width, free)


def _are_orders(parts):
    """Whether it is two nets of one width with the same hops, within the limit of rows, and a word."""
    if len(parts) != 3 or not isinstance(parts[0], Net) or not isinstance(parts[1], Net):
        return False
    old, new, good = parts
    if old.width != new.width or old.hops() != new.hops():
        return False
    return is_in_limits(old, new) and is_word(good)


def _are_free(width, free):
    """Whether it is a list of unlike stretches of the width, and not too many."""
    try:
        check_free(width, free)
    except (InvalidFree, TooMany):
        return False
    return True


def _small_table(table, free, many):
    """An alike table with at most so many rows; None."""
    spared = spare(table, free)
    return spared if len(spared) <= many else None


def _is_small_table(table, free, many, value):
    """Whether the value is an alike table with at most so many rows."""
    if not isinstance(value, Table) or value.width != table.width:
        return False
    return len(value) <= many and is_alike(table, value, free)


def _great_pack(table, free, many):
    """A pack of more than so many tuples; None."""
    packed = pack(table, free)
    return packed if len(packed) > many else None


def _is_great_pack(table, free, many, value):
    """Whether the value is a pack of more than so many tuples."""
    return is_pack(table, value, free) and len(value) > many


def _is_unlike_address(table, other, free, value):
    """Whether the value is a used address with unlike goals."""
    if not is_address(table.width, value) or is_free(free, value):
        return False
    return table(value) != other(value)
