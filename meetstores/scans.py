"""Pages of a store (point 27)."""

from meetstores.errors import BadCount
from meetstores.notes import MANY_HOSTS, check_key, check_store, key_range, values_by_key
from meetstores.octets import is_between

MOST_ROWS = 100


def page(store, after, many):
    """The pair of the rows (key, values) of the first so many keys behind a key, and of the last one of these keys,
    None if there are no keys beyond it.
    """
    check_store(store)
    if after is not None:
        check_key(after)
    if not is_between(many, 1, MOST_ROWS):
        raise BadCount("not 1 to 100 keys")
    start = key_range(store, after)[1] if after is not None else 0
    # A key has at most one note of each host, so these notes are all those of the keys of the page, and of one more.
    values = values_by_key(store[start:start + MANY_HOSTS * (many + 1)])
    keys = list(values)
    rows = tuple([(key, values[key]) for key in keys[:many]])
    return rows, (keys[many - 1] if len(keys) > many else None)
