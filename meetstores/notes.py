"""Notes and stores of them (points 8 and 9)."""

from meetstores.errors import BadHost, BadKey, BadName, BadNote, BadSerial, BadStore, BadValue
from meetstores.octets import is_between, is_signs, is_value

MANY_HOSTS = 8
MOST_KEY = 40
MOST_SERIAL = 134217727
SERIALS = 134217728


def is_host(value):
    """Whether a value is the number of a host."""
    return is_between(value, 0, MANY_HOSTS - 1)


def is_key(value):
    """Whether a value is a key."""
    return is_signs(value, 1, MOST_KEY)


def is_serial(value):
    """Whether a value is the serial of a write."""
    return is_between(value, 1, MOST_SERIAL)


def is_past(value):
    """Whether a value is a tuple of the last serials, or 0, of all hosts."""
    if type(value) is not tuple or len(value) != MANY_HOSTS:
        return False
    for serial in value:
        if type(serial) is not int or not 0 <= serial <= MOST_SERIAL:
            return False
    return True


def is_note(value):
    """Whether a value is a note."""
    if type(value) is not tuple or len(value) != 5:
        return False
    key, host, serial, past, worth = value
    if not (is_key(key) and is_host(host) and is_serial(serial)):
        return False
    return is_past(past) and past[host] < serial and is_value(worth)


def is_name(value):
    """Whether a value is the name of a note."""
    return is_between(value, 0, MANY_HOSTS * SERIALS - 1) and value % SERIALS > 0


def is_covering(note, other):
    """Whether a note covers another one; both surely are notes."""
    return note[0] == other[0] and other[2] <= note[3][other[1]]


def fits_behind(note, beside):
    """Whether a note may stand in a store behind the notes of the last key in it so far."""
    if len(beside) == 0 or beside[-1][0] < note[0]:
        return True
    if beside[-1][:2] >= note[:2]:
        return False
    return not any([is_covering(note, other) or is_covering(other, note) for other in beside])


def check_key(key):
    """Raise the error of a value that is not a key."""
    if not is_key(key):
        raise BadKey("not a key")


def check_store(store):
    """Raise the error of a value that is not a store."""
    if type(store) is not tuple:
        raise BadStore(None)
    beside = []
    for index, note in enumerate(store):
        if not is_note(note) or not fits_behind(note, beside):
            raise BadStore(index)
        if len(beside) > 0 and beside[-1][0] == note[0]:
            beside.append(note)
        else:
            beside = [note]


def name_in(note):
    """The name of what surely is a note."""
    return note[1] * SERIALS + note[2]


def names_in(store):
    """The names of the notes of what surely is a store, in a list, in the order of the store."""
    return [note[1] * SERIALS + note[2] for note in store]


def key_range(store, key):
    """The place of the first note of a key in what surely is a store, and the place behind the last one."""
    low, high = 0, len(store)
    while low < high:
        middle = (low + high) // 2
        if store[middle][0] < key:
            low = middle + 1
        else:
            high = middle
    while high < len(store) and store[high][0] == key:
        high += 1
    return low, high


def values_in(store, key):
    """The values that what surely is a store has of a key, in a tuple."""
    start, end = key_range(store, key)
    return tuple([note[4] for note in store[start:end]])


def values_by_key(store):
    """For each key of what surely is a store, ascending, the tuple of its values."""
    values = {}
    for note in store:
        values.setdefault(note[0], []).append(note[4])
    return {key: tuple(values[key]) for key in values}


def doubtful_in(store):
    """The ascending list of the keys of which what surely is a store has several notes."""
    values = values_by_key(store)
    return [key for key in values if len(values[key]) > 1]


def last_serial(store, host):
    """The greatest serial that what surely is a store has of a host, as a note's own or in a past, or 0."""
    last = 0
    for note in store:
        if note[3][host] > last:
            last = note[3][host]
        if note[1] == host and note[2] > last:
            last = note[2]
    return last


def past_of(notes):
    """The past of a write that takes the place of some notes of one key."""
    past = [0] * MANY_HOSTS
    for note in notes:
        for host in range(MANY_HOSTS):
            past[host] = max(past[host], note[3][host])
        past[note[1]] = max(past[note[1]], note[2])
    return tuple(past)


def seen_in(store, key):
    """For each host the greatest serial that what surely is a store has of it for a key, also in pasts, or 0."""
    start, end = key_range(store, key)
    return past_of(store[start:end])


def store_with(store, host, serial, key, value):
    """What surely is a store, with a write whose parts surely are good."""
    start, end = key_range(store, key)
    return store[:start] + ((key, host, serial, seen_in(store, key), value),) + store[end:]


def newest(notes):
    """For each key the list of the notes that have the greatest serial of their host, by their hosts."""
    chosen = {}
    for note in notes:
        place = note[:2]
        if place not in chosen or chosen[place][2] < note[2]:
            chosen[place] = note
    by_key = {}
    for place in sorted(chosen):
        by_key.setdefault(place[0], []).append(chosen[place])
    return by_key


def together(notes):
    """The store of the newest ones of some notes of which none of these others covers one."""
    store = []
    for beside in newest(notes).values():
        for note in beside:
            if not any([is_covering(other, note) for other in beside]):
                store.append(note)
    return tuple(store)


def store_and(store, notes):
    """What surely is a store, with notes of any order taken in as in merged."""
    by_key = {}
    for note in notes:
        by_key.setdefault(note[0], []).append(note)
    parts = []
    at = 0
    # Only notes of the same key cover each other, so all others stay as they are.
    for key in sorted(by_key):
        start, end = key_range(store, key)
        parts.append(store[at:start])
        parts.append(together(store[start:end] + tuple(by_key[key])))
        at = end
    parts.append(store[at:])
    return tuple([note for part in parts for note in part])


def name_of(note):
    """A note's name."""
    if not is_note(note):
        raise BadNote("not a note")
    return name_in(note)


def parts_of(name):
    """The pair (host, serial) that a name tells."""
    if not is_name(name):
        raise BadName("not the name of a note")
    return name // SERIALS, name % SERIALS


def covers(note, other):
    """Whether a note covers another one."""
    if not is_note(note) or not is_note(other):
        raise BadNote("not a note")
    return is_covering(note, other)


def read(store, key):
    """The tuple of the values of a key's notes in a store, by their hosts."""
    check_store(store)
    check_key(key)
    return values_in(store, key)


def written(store, host, serial, key, value):
    """The store in which a host has written a value of a key under a serial."""
    check_store(store)
    if not is_host(host):
        raise BadHost("not a host")
    if not is_serial(serial) or serial <= last_serial(store, host):
        raise BadSerial("not a serial behind all that the store has of the host")
    check_key(key)
    if not is_value(value):
        raise BadValue("not a value")
    return store_with(store, host, serial, key, value)


def merged(store, other):
    """Two stores together."""
    check_store(store)
    check_store(other)
    return together(store + other)


def differ(store, other):
    """The ascending tuple of the names that just one of two stores has."""
    check_store(store)
    check_store(other)
    return tuple(sorted(set(names_in(store)) ^ set(names_in(other))))
