"""Rolls: long texts kept as sheets under keys of their own (point 25)."""

from meetstores.errors import BadRoll
from meetstores.hosts import check_host, check_serials, number_of, serial_of
from meetstores.kinds import check_thing
from meetstores.lines import is_figures
from meetstores.notes import check_store, values_in
from meetstores.octets import is_signs

MOST_ROLL = 20000
SHEET = 200
MOST_FIGURES = 9


def are_figures(words):
    """Whether each one of some words is a number as the texts of rolls tell it."""
    return all([is_figures(word, MOST_FIGURES) for word in words])


def sheet_key(thing, version, index):
    """The key of a sheet."""
    return f"{thing}+{version}+{index}"


def heads_in(store, thing):
    """The list of the pairs (version, how many sheets) that the notes of a thing's key tell, in their order."""
    heads = []
    for value in values_in(store, thing):
        words = value.split("_") if type(value) is str else []
        if len(words) == 3 and are_figures(words):
            heads.append((words[0] + "_" + words[1], int(words[2])))
    return heads


def text_in(store, thing, version, many):
    """The text of the sheets of a version in a store; None if one of them is missing or is not a text."""
    sheets = []
    for index in range(many):
        values = values_in(store, sheet_key(thing, version, index))
        if len(values) == 0 or type(values[-1]) is not str:
            return None
        sheets.append(values[-1])
    return "".join(sheets)


def is_of_no_use(key, thing, versions):
    """Whether a key is that of a sheet of a thing whose version is none of some versions."""
    words = key.split("+")
    if len(words) != 3 or words[0] != thing:
        return False
    parts = words[1].split("_")
    return len(parts) == 2 and are_figures(parts) and words[1] not in versions


def roll_out(host, thing, text):
    """Let a host write a roll of a thing."""
    check_host(host)
    check_thing(thing)
    if not is_signs(text, 0, MOST_ROLL):
        raise BadRoll("not the text of a roll")
    sheets = [text[at:at + SHEET] for at in range(0, len(text), SHEET)]
    check_serials(host, len(sheets) + 1)
    version = f"{number_of(host)}_{serial_of(host) + len(sheets) + 1}"
    for index, sheet in enumerate(sheets):
        host.write(sheet_key(thing, version, index), sheet)
    host.write(thing, f"{version}_{len(sheets)}")


def rolls(store, thing):
    """The tuple of the texts of the rolls of a thing, None in the place of one that is not there as a whole."""
    check_store(store)
    check_thing(thing)
    return tuple([text_in(store, thing, version, many) for version, many in heads_in(store, thing)])


def sweep_up(host, thing):
    """Let a host strike the sheets of a thing that are of no use to it; how many keys these were."""
    check_host(host)
    check_thing(thing)
    store, number = host.store(), number_of(host)
    versions = [version for version, _ in heads_in(store, thing)]
    keys = []
    for note in store:
        if note[1] == number and note[4] is not None and is_of_no_use(note[0], thing, versions):
            keys.append(note[0])
    check_serials(host, len(keys))
    for key in keys:
        host.write(key, None)
    return len(keys)
