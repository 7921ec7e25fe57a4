"""Choices: one value where several notes stand side by side (point 33)."""

from meetstores.errors import BadManner
from meetstores.hosts import check_host, check_serials
from meetstores.notes import check_key, check_store, doubtful_in, values_in
from meetstores.octets import MOST_INTEGER

MANNERS = ("least", "greatest", "first", "last", "sum", "most")


def check_manner(manner):
    """Raise the error of a value that is not a manner to choose by."""
    if manner not in MANNERS:
        raise BadManner("not a manner")


def rank(value):
    """What puts values of all kinds in order: None, then integers, then texts."""
    if value is None:
        return 0, 0
    return (1, value) if type(value) is int else (2, value)


def bounded_sum(values):
    """The sum of those of some values that are integers, or the greatest or least value if it is beyond."""
    total = sum([value for value in values if type(value) is int])
    return max(-MOST_INTEGER, min(MOST_INTEGER, total))


def chosen_of(values, manner):
    """The one that is chosen by a manner of values, which stand in the order of their hosts; None if there are none."""
    if len(values) == 0:
        return None
    if manner == "least":
        return min(values, key=rank)
    if manner == "greatest":
        return max(values, key=rank)
    if manner == "first":
        return values[0]
    if manner == "last":
        return values[-1]
    if manner == "sum":
        return bounded_sum(values)
    most = max([values.count(value) for value in values])
    return min([value for value in values if values.count(value) == most], key=rank)


def chosen(store, key, manner):
    """The value of a key that is chosen by a manner, None of a key without notes."""
    check_store(store)
    check_key(key)
    check_manner(manner)
    return chosen_of(values_in(store, key), manner)


def doubtful(store):
    """The ascending tuple of the keys that have several notes."""
    check_store(store)
    return tuple(doubtful_in(store))


def settle_all(host, manner):
    """Let a host write the chosen value of each doubtful key; how many these were."""
    check_host(host)
    check_manner(manner)
    store = host.store()
    keys = doubtful_in(store)
    check_serials(host, len(keys))
    for key in keys:
        host.write(key, chosen_of(values_in(store, key), manner))
    return len(keys)
