"""Deltas: the notes by which a store goes beyond an elder one (point 30)."""

from meetstores.errors import BadStore
from meetstores.notes import check_store, is_covering, key_range, store_and

MOST_STORES = 100


def check_stores(stores):
    """Raise the error of a value that is not a tuple of stores, not too many ones."""
    if type(stores) is not tuple or len(stores) > MOST_STORES:
        raise BadStore(None)
    for store in stores:
        check_store(store)


def is_known(note, beside):
    """Whether one of the notes of a note's key covers it, or is of its host and has as great a serial."""
    for other in beside:
        if is_covering(other, note) or (other[1] == note[1] and other[2] >= note[2]):
            return True
    return False


def delta_in(store, older):
    """What delta returns for what surely are stores."""
    new = []
    for note in store:
        start, end = key_range(older, note[0])
        if not is_known(note, older[start:end]):
            new.append(note)
    return tuple(new)


def delta(store, older):
    """The notes of a store that an elder one lacks, and that none of its notes covers."""
    check_store(store)
    check_store(older)
    return delta_in(store, older)


def with_deltas(store, deltas):
    """A store with the notes of deltas taken in, one behind another."""
    check_store(store)
    check_stores(deltas)
    for notes in deltas:
        store = store_and(store, notes)
    return store


def deltas_of(stores):
    """The tuple of the deltas of stores, each to all those before it together."""
    check_stores(stores)
    deltas = []
    before = ()
    for store in stores:
        deltas.append(delta_in(store, before))
        before = store_and(before, store)
    return tuple(deltas)
