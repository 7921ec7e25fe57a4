"""Tallies, to which each host adds under a key of its own, and bags of items (points 23 and 24)."""

from meetstores.errors import BadAmount, BadHost, BadItem, BadThing
from meetstores.notes import MANY_HOSTS, check_store, is_host, values_in
from meetstores.octets import MOST_INTEGER, is_between, is_signs

MOST_THING = 20
MOST_ITEM = 18


def is_thing(value):
    """Whether a value is a thing."""
    return is_signs(value, 1, MOST_THING) and "+" not in value and "/" not in value


def check_thing(thing):
    """Raise the error of a value that is not a thing."""
    if not is_thing(thing):
        raise BadThing("not a thing")


def is_item(value):
    """Whether a value is an item."""
    return is_signs(value, 1, MOST_ITEM)


def is_amount(value):
    """Whether a value is an amount, or a part that a host may keep."""
    return is_between(value, -MOST_INTEGER, MOST_INTEGER)


def tally_key(thing, host):
    """The key under which a host keeps its part of the tally of a thing."""
    return f"{thing}+{host}"


def part_in(store, thing, host):
    """A host's part of the tally of a thing in what surely is a store."""
    return sum([value for value in values_in(store, tally_key(thing, host)) if type(value) is int])


def total_in(store, thing):
    """What the tally of a thing comes to in what surely is a store."""
    return sum([part_in(store, thing, host) for host in range(MANY_HOSTS)])


def adding_in(store, host, thing, amount):
    """The pair (key, value) that a host with what surely is a store writes to add what surely is an amount."""
    part = part_in(store, thing, host) + amount
    if not is_amount(part):
        raise BadAmount("the part would be too great or too small")
    return tally_key(thing, host), part


def items_in(store, thing):
    """The ascending list of the items in the bag of a thing, in what surely is a store."""
    start = thing + "/"
    held = {note[0]: True for note in store if note[0].startswith(start) and note[4] is not None}
    return sorted([key[len(start):] for key in held])


def item_key(thing, item):
    """The key of an item in the bag of a thing."""
    if not is_thing(thing):
        raise BadThing("not a thing")
    if not is_item(item):
        raise BadItem("not an item")
    return thing + "/" + item


def total(store, thing):
    """The sum of the parts of all hosts of the tally of a thing."""
    check_store(store)
    check_thing(thing)
    return total_in(store, thing)


def adding(store, host, thing, amount):
    """The pair (key, value) that a host writes to add an amount to the tally of a thing."""
    check_store(store)
    if not is_host(host):
        raise BadHost("not the number of a host")
    check_thing(thing)
    if not is_amount(amount):
        raise BadAmount("not an amount")
    return adding_in(store, host, thing, amount)


def putting(thing, item):
    """The pair (key, value) that a host writes to put an item into the bag of a thing."""
    return item_key(thing, item), 1


def taking(thing, item):
    """The pair (key, value) that a host writes to take an item out of the bag of a thing."""
    return item_key(thing, item), None


def items(store, thing):
    """The ascending tuple of the items in the bag of a thing."""
    check_store(store)
    check_thing(thing)
    return tuple(items_in(store, thing))
