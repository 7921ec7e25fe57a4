"""Values and reckonings that several tests use, made without the package."""

import random

PRIME = 2 ** 61 - 1
NO_PAST = (0,) * 8

# Values of every kind that may be passed for any argument; each is wrong for most of them.
ODD = (
    None, True, False, 0, 1, -1, 7, 8, 255, 256, 2 ** 27 - 1, 2 ** 27, 2 ** 30, 2 ** 40, -2 ** 40 - 1, PRIME - 1,
    PRIME, 2 ** 63 - 1, 2 ** 63, 10 ** 5000, "", "a", "\n", "a\nb", "caf\u00e9", "'", "a" * 40, "a" * 41, "a" * 200,
    "a" * 201, "\ud800", (), (0,), (1,), (True,), (False,), (None,), (-1,), (256,), ("a",), ((),), ([],), ({},),
    (1, 2), (1, True), (0, 1, 2, 3, 4, 5, 6, 7, 8), (0,) * 60, (0,) * 61, (1,) * 62, (5,) * 4000, (5,) * 4001,
    ((0, 1),), ((0, 0),), ((1, 1), (1, 1)), ([0, 1],), ((0, True),), (("a", 0, 1, NO_PAST, None),),
    ("a", 0, 1, NO_PAST, None), ["a", 0, 1, NO_PAST, None], [], [0], [1, 2], [(0, 1)], {}, {"a": 1}, {0: 1},
    ({"a": [1, (2,)]},), (((((1,),),),),),
)


def chance(seed):
    """A source of numbers that are the same at each run."""
    return random.Random(seed)


def octet_times(one, two):
    """The product in the field of 256, bit by bit."""
    total = 0
    for bit in range(8):
        if two >> bit & 1:
            total ^= one << bit
    for bit in range(14, 7, -1):
        if total >> bit & 1:
            total ^= 285 << bit - 8
    return total


def block_at(block, place):
    """The value of a block's polynomial at an octet."""
    total = 0
    for octet in block:
        total = octet_times(total, place) ^ octet
    return total


def spoiled(block, many, source):
    """A block with just so many octets changed."""
    octets = list(block)
    for place in source.sample(range(len(octets)), many):
        octets[place] ^= source.randrange(1, 256)
    return tuple(octets)


def times(one, two):
    """The product of two polynomials modulo the prime, as a tuple without 0 at its end."""
    numbers = [0] * (len(one) + len(two))
    for k, left in enumerate(one):
        for j, right in enumerate(two):
            numbers[k + j] += left * right
    numbers = [number % PRIME for number in numbers]
    while numbers and numbers[-1] == 0:
        numbers.pop()
    return tuple(numbers)


def product_of(roots):
    """The polynomial with leading number 1 that has these roots."""
    poly = (1,)
    for root in roots:
        poly = times(poly, (-root % PRIME, 1))
    return poly


def note(key, host, serial, past=NO_PAST, value=None):
    """A note, its past given as a tuple or as a dict of hosts."""
    if isinstance(past, dict):
        past = tuple(past.get(k, 0) for k in range(8))
    return (key, host, serial, past, value)


def store_of(names):
    """A store of notes with these names, each under a key of its own."""
    return tuple(sorted(note(f"k{name}", name >> 27, name & 2 ** 27 - 1) for name in names))


def some_names(many, source):
    """So many names of notes, all unlike."""
    names = set()
    while len(names) < many:
        name = source.randrange(2 ** 30)
        if name % 2 ** 27:
            names.add(name)
    return source.sample(sorted(names), many)


def number_told(names, index):
    """What names tell at the point of an index."""
    number = 1
    for name in names:
        number = number * (2 ** 30 + index - name) % PRIME
    return number


def tells_of(names, indexes):
    """The tells of names at the points of some indexes."""
    return tuple((index, number_told(names, index)) for index in sorted(indexes))


def some_value(source):
    """A value at random."""
    kind = source.randrange(4)
    if kind == 0:
        return None
    if kind == 1:
        return source.randrange(-2 ** source.randrange(41), 2 ** source.randrange(41) + 1)
    return "".join(source.choice("ab Z9 ?!") for _ in range(source.choice((0, 1, 5, 30, 200))))
