"""Lots: sets of copies, as tuples in ascending order.

The mask of a lot is the number that counts 1 for copy 0, 2 for copy 1, 4 for
copy 2 and so on. Lots are ordered by it, so it is the place of the lot among
all lots.
"""

from copyvotes.errors import BadNumber, TooMany
from copyvotes.words import check_number

MOST_COPIES = 8


def check_copies(copies):
    """Return the number of copies if there may be so many."""
    return check_number("copies", copies, 1, MOST_COPIES)


def check_copy(copies, copy):
    """Return the copy if it is one of so many copies."""
    return check_number("copy", copy, 0, copies - 1)


def check_few(copies, limit):
    """Raise TooMany if there are more copies than the limit."""
    if copies > limit:
        raise TooMany(limit)


def mask_of(copies, numbers):
    """Return the mask of the lot of these copies, which may stand in any order and several times."""
    mask = 0
    for number in numbers:
        mask = mask | (1 << check_copy(copies, number))
    return mask


def mask_in(copies, value):
    """Return the mask of the lot that the value tells, None if it is no list or tuple of copies."""
    if not isinstance(value, (list, tuple)):
        return None
    try:
        return mask_of(copies, value)
    except BadNumber:
        return None


def lot_at(mask):
    """Return the lot of this mask."""
    return tuple([copy for copy in range(MOST_COPIES) if mask & (1 << copy)])


def lot_of(copies, numbers):
    """Return the lot of these copies, which may stand in any order and several times."""
    check_copies(copies)
    return lot_at(mask_of(copies, numbers))


def is_lot(copies, value):
    """Tell whether the value is a lot as it stands: a tuple of different copies in ascending order."""
    if not isinstance(value, tuple):
        return False
    mask = mask_in(copies, value)
    return mask is not None and lot_at(mask) == value


def others(copies, lot):
    """Return the lot of the copies that are not in the lot."""
    check_copies(copies)
    whole = (1 << copies) - 1
    return lot_at(whole - mask_of(copies, lot))


def all_lots(copies):
    """Return all lots, ascending."""
    check_copies(copies)
    return [lot_at(mask) for mask in range(1 << copies)]


def middle_lots(copies):
    """Return the lots, ascending, that are neither empty nor the lot of all copies."""
    return all_lots(copies)[1:-1]


def whole_lot(copies):
    """Return the lot of all copies."""
    return others(copies, ())
