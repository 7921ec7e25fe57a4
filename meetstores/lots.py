"""Lots of names, and the difference of two stores within one (point 12)."""

from meetstores.errors import BadLot
from meetstores.finds import check_size, check_tells, difference
from meetstores.notes import check_store, names_in
from meetstores.octets import is_between

MOST_LEVEL = 20
WHOLE = (0, 0)


def is_lot(value):
    """Whether a value is a lot."""
    if type(value) is not tuple or len(value) != 2:
        return False
    level, rest = value
    return is_between(level, 0, MOST_LEVEL) and is_between(rest, 0, (1 << level) - 1)


def check_lot(lot):
    """Raise the error of a value that is not a lot."""
    if not is_lot(lot):
        raise BadLot("not a lot")


def is_within(lot, other):
    """Whether all names of a lot are names of another one, too."""
    return other[0] <= lot[0] and lot[1] & ((1 << other[0]) - 1) == other[1]


def names_of_lot(names, lot):
    """The list of those of some names that are of a lot."""
    level, rest = lot
    mask = (1 << level) - 1
    return [name for name in names if name & mask == rest]


def pair_of_lot(pair, lot):
    """A difference as it is found among all names; None in its place if a name that is more is not of a lot."""
    # There is one difference at most, so if this one leads out of the lot there is none within it.
    if pair is None or len(names_of_lot(pair[0], lot)) < len(pair[0]):
        return None
    return pair


def halves_of(lot):
    """The pair of the lots into which what surely is a lot of a level below 20 is parted."""
    level, rest = lot
    return (level + 1, rest), (level + 1, rest + (1 << level))


def lot_names(store, lot):
    """The ascending tuple of the names of a store that are of a lot."""
    check_store(store)
    check_lot(lot)
    return tuple(sorted(names_of_lot(names_in(store), lot)))


def halves(lot):
    """The pair of the lots into which a lot is parted."""
    if not is_lot(lot) or lot[0] == MOST_LEVEL:
        raise BadLot("not a lot that can be parted")
    return halves_of(lot)


def find_lot(size, tells, store, lot):
    """The pair (more, less) of the names of a lot that another store, of which the lot's size and tells are heard,
    has more than a store, and of those that it has not; None if the tells tell none.
    """
    check_size(size)
    check_tells(tells)
    check_store(store)
    check_lot(lot)
    return pair_of_lot(difference(size, tells, names_of_lot(names_in(store), lot)), lot)
