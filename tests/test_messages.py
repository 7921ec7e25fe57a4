import unittest

from meetstores.errors import BadMessage, BadOctets, Unread
from meetstores.messages import read_message, write_message
from samples import NO_PAST, ODD, PRIME, chance, note, some_names, some_value

TOP = 2 ** 40 - 1
LAST = 2 ** 27 - 1
LONG = note("k" * 40, 7, LAST, (LAST,) * 7 + (LAST - 1,), "v" * 200)
NUMBERS = (
    ("number", 0, (0, 0), 0, 0, 1), ("number", TOP, (20, 2 ** 20 - 1), 2 ** 20, 2 ** 20 - 1, PRIME - 1),
    ("number", 128, (7, 127), 127, 128, 129), ("number", 3, (0, 0), 2, 0, 300),
)
ASKS = (
    ("ask", 0, (1,)), ("ask", TOP, tuple(range(2 ** 30 - 100, 2 ** 30))), ("ask", 5, (1, 2, 2 ** 27 + 1, 2 ** 30 - 1)),
)
NOTES = (
    ("notes", (note("a", 0, 1),)), ("notes", (note("a", 7, LAST, (LAST,) * 7 + (LAST - 1,), -2 ** 40),)),
    ("notes", (note("a", 0, 1), note("a", 0, 2), note("a", 1, 1), note("b", 0, 1))),
    ("notes", tuple(note(f"k{k:02}", k % 8, k + 1, value=k) for k in range(40))), ("notes", (LONG,)),
    ("notes", (note(" ", 3, 5, {3: 4}, ""), note("?!", 3, 5, {3: 4}, 2 ** 40))),
)
OTHERS = (
    ("all",), ("part", 0, (0, 0)), ("part", TOP, (20, 2 ** 20 - 1)), ("done", 0, (0, 0)), ("done", TOP, (20, 5)),
)
GOOD = NUMBERS + ASKS + NOTES + OTHERS
BAD = ODD + (
    ("number",), ("ask",), ("notes",), ("part",), ("done",), ("all", 1), ("all", ()), ["all"], ("ALL",), "all", ("nope",),
    ((), ()), ([],), ({}, 1), (None,), (True,), (1, 3, 0, 0, 2, 0, 300), ("done", 3), ("done", 3, (0, 0), 0),
    ("number", 0, (0, 0), 0, 0), ("number", 0, (0, 0), 0, 0, 1, 1), ("number", 0, 0, 0, 0, 0, 1),
    ("number", -1, (0, 0), 0, 0, 1), ("number", TOP + 1, (0, 0), 0, 0, 1), ("number", True, (0, 0), 0, 0, 1),
    ("number", 0, (0, 1), 0, 0, 1), ("number", 0, (21, 0), 0, 0, 1), ("number", 0, [0, 0], 0, 0, 1),
    ("number", 0, (0, 0), -1, 0, 1), ("number", 0, (0, 0), 2 ** 20 + 1, 0, 1), ("number", 0, (0, 0), None, 0, 1),
    ("number", 0, (0, 0), 0, -1, 1), ("number", 0, (0, 0), 0, 2 ** 20, 1), ("number", 0, (0, 0), 0, False, 1),
    ("number", 0, (0, 0), 0, 0, 0), ("number", 0, (0, 0), 0, 0, PRIME), ("number", 0, (0, 0), 0, 0, True),
    ("ask", 0, ()), ("ask", 0, tuple(range(1, 102))), ("ask", 0, [1]), ("ask", 0, (0,)), ("ask", 0, (2 ** 27,)),
    ("ask", 0, (2 ** 30,)), ("ask", 0, (2, 1)), ("ask", 0, (1, 1)), ("ask", 0, (True,)), ("ask", -1, (1,)),
    ("ask", TOP + 1, (1,)), ("ask", None, (1,)), ("ask", 0, 1), ("ask", 0, (None,)), ("ask", 0, ("a", 1)),
    ("notes", ()), ("notes", [note("a", 0, 1)]), ("notes", note("a", 0, 1)), ("notes", (note("a", 0, 0),)),
    ("notes", (note("a", 0, 1), note("a", 0, 1))), ("notes", (note("b", 0, 1), note("a", 0, 1))),
    ("notes", (note("a", 1, 1), note("a", 0, 2))), ("notes", (note("a", 0, 2), note("a", 0, 2, {0: 1}))),
    ("notes", (note("a", 0, 2), note("a", 0, 1))),
    ("notes", tuple(note(f"k{k:02}", 0, k + 1) for k in range(41))), ("notes", (list(note("a", 0, 1)),)),
    ("notes", (note("", 0, 1),)), ("notes", (note("a", 0, 1, value=True),)), ("notes", None),
    ("notes", (note("a", 0, 1), None)), ("notes", (note("a", 0, 1), ("a",))),
    ("part", -1, (0, 0)), ("part", TOP + 1, (0, 0)), ("part", 0, (0, 1)), ("part", 0, 0, 0), ("part", 0, [0, 0]),
    ("done", True, (0, 0)), ("done", 0, (1, 2)), ("done", 0, None), ("done", 0, (20, 2 ** 20)),
)


def count(number):
    """A count's octets, group by group."""
    groups = [number % 128]
    while number >= 128:
        number //= 128
        groups.append(number % 128)
    return [group + 128 for group in groups[:-1]] + groups[-1:]


def counts(*numbers):
    return [octet for number in numbers for octet in count(number)]


SIGNS = "abcdefghijklmnopqrstuvwxyzABCDEFGHIJKLMNOPQRSTUVWXYZ0123456789 .,:;-_/+*()=?!"


def text(string):
    return count(len(string)) + [SIGNS.index(sign) for sign in string]


def value(worth):
    if worth is None:
        return [0]
    if isinstance(worth, str):
        return [2] + text(worth)
    return [1] + count(2 * worth if worth >= 0 else -2 * worth - 1)


def octets_of(message):
    """A message's octets, word by word as point 13 tells them."""
    word = message[0]
    if word == "number":
        _, edition, (level, rest), size, index, number = message
        octets = [1] + counts(edition, level, rest, size, index, number)
    elif word == "ask":
        octets = [2] + counts(message[1], len(message[2]), *message[2])
    elif word == "all":
        octets = [3]
    elif word == "notes":
        octets = [4] + count(len(message[1]))
        for key, host, serial, past, worth in message[1]:
            octets += text(key) + [host] + counts(serial, *past) + value(worth)
    else:
        octets = [5 if word == "part" else 6] + counts(message[1], *message[2])
    return tuple(octets)


def some_message(source):
    """A message at random."""
    kind = source.randrange(6)
    edition = source.randrange(2 ** source.randrange(1, 41))
    level = source.randrange(21)
    lot = (level, source.randrange(2 ** level))
    if kind == 0:
        return ("number", edition, lot, source.randrange(2 ** 20 + 1), source.randrange(2 ** 20),
                source.randrange(1, PRIME))
    if kind == 1:
        return ("ask", edition, tuple(sorted(some_names(source.randrange(1, 101), source))))
    if kind == 2:
        return ("all",)
    if kind == 3:
        places = sorted({("k" + "abc" * source.randrange(4) + str(source.randrange(9)), source.randrange(8),
                          source.randrange(1, 2 ** source.randrange(1, 28))) for _ in range(source.randrange(1, 15))})
        notes = []
        for key, host, serial in places:
            past = [source.randrange(2 ** source.randrange(28)) for _ in range(8)]
            past[host] = source.randrange(serial)
            notes.append((key, host, serial, tuple(past), some_value(source)))
        return ("notes", tuple(notes))
    return ("part" if kind == 4 else "done", edition, lot)


class Messages(unittest.TestCase):
    def test_there_and_back(self):
        for message in GOOD:
            with self.subTest(message=message):
                self.assertEqual(write_message(message), octets_of(message))
                self.assertEqual(read_message(octets_of(message)), message)

    def test_messages_at_random(self):
        source = chance(50)
        for _ in range(400):
            message = some_message(source)
            octets = octets_of(message)
            if len(octets) <= 4000:
                self.assertEqual(write_message(message), octets)
                self.assertEqual(read_message(octets), message)
            else:
                self.assertRaises(BadMessage, write_message, message)

    def test_refused_messages(self):
        for message in BAD:
            with self.subTest(at=BAD.index(message)), self.assertRaises(BadMessage):
                write_message(message)

    def test_just_as_many_octets_as_may_be(self):
        lengths = [180] * 19 + [100, 123]
        notes = tuple(note(f"k{k:02}", 0, k + 1, value="v" * many) for k, many in enumerate(lengths))
        octets = octets_of(("notes", notes))
        self.assertEqual(len(octets), 4000)
        self.assertEqual(write_message(("notes", notes)), octets)
        self.assertEqual(read_message(octets), ("notes", notes))
        longer = notes[:-1] + (note("k20", 0, 21, value="v" * 124),)
        self.assertEqual(len(octets_of(("notes", longer))), 4001)
        self.assertRaises(BadMessage, write_message, ("notes", longer))
        self.assertRaises(BadMessage, write_message, ("notes", tuple(note(f"k{k:02}", 0, 1, value="v" * 200)
                                                                    for k in range(40))))

    def test_octets_that_end_too_early_or_go_on(self):
        for message in GOOD:
            octets = octets_of(message)
            for many in sorted({0, 1, len(octets) // 2, *range(max(0, len(octets) - 60), len(octets))} - {len(octets)}):
                with self.subTest(message=message[0], many=many), self.assertRaises(Unread):
                    read_message(octets[:many])
            for behind in ((0,), (1,), (255,), octets):
                if len(octets + behind) <= 4000:
                    self.assertRaises(Unread, read_message, octets + behind)

    def test_octets_that_are_read_lead_back(self):
        source = chance(51)
        read = 0
        for _ in range(4000):
            octets = list(octets_of(some_message(source)))
            for _ in range(source.randrange(1, 3)):
                octets[source.randrange(len(octets))] = source.choice((0, 1, 2, 127, 128, 255, source.randrange(256)))
            if len(octets) > 4000:
                continue
            try:
                message = read_message(tuple(octets))
            except Unread:
                continue
            read += 1
            self.assertEqual(write_message(message), tuple(octets))
        self.assertGreater(read, 300)

    def test_octets_that_tell_what_may_not_be(self):
        for octets in (
            (), (0,), (7,), (3, 3), (128,), (131, 0), (1,), (2,), (4,), (5,), (6,), (255,) * 4000, (4,) * 4000,
            (1, 0, 0, 1, 0, 0, 1), (1, 0, 21, 0, 0, 0, 1), (1, 0, 0, 0, 0, 0, 0), (1, 128, 0, 0, 0, 0, 0, 1),
            (2, 0, 0), (2, 0, 1, 0), (2, 0, 2, 1, 1), (2, 0, 2, 2, 1), (2, 0, 101) + tuple(range(1, 102)),
            (4, 0), (5, 0, 1, 2), (6, 0, 0, 1), (5, 0, 21, 0),
            tuple([1] + counts(2 ** 40, 0, 0, 0, 0, 1)), tuple([1] + counts(0, 0, 0, 2 ** 20 + 1, 0, 1)),
            tuple([1] + counts(0, 0, 0, 0, 2 ** 20, 1)), tuple([1] + counts(0, 0, 0, 0, 0, PRIME)),
            tuple([2] + counts(0, 1, 2 ** 27)), tuple([2] + counts(0, 1, 2 ** 30)), tuple([2] + counts(2 ** 40, 1, 1)),
            tuple([2] + counts(0, 2 ** 63 - 1, 1)), tuple([4] + counts(2 ** 63 - 1) + [1, 0, 0, 1] + [0] * 9),
        ):
            with self.subTest(octets=octets[:20]), self.assertRaises(Unread):
                read_message(octets)
        good = (4, 1, 1, 0, 0, 1) + (0,) * 8 + (0,)
        self.assertEqual(read_message(good), ("notes", (note("a", 0, 1),)))
        for at, octet in ((1, 0), (1, 2), (2, 0), (3, 77), (4, 8), (4, 255), (5, 0), (6, 1), (14, 3), (14, 1), (13, 128)):
            with self.subTest(at=at, octet=octet), self.assertRaises(Unread):
                read_message(good[:at] + (octet,) + good[at + 1:])
        twice = (4, 2) + good[2:] + good[2:]
        self.assertRaises(Unread, read_message, twice)
        forty_one = [4, 41] + [octet for k in range(41) for octet in [1, k, 0, 1] + [0] * 9]
        self.assertRaises(Unread, read_message, tuple(forty_one))
        forty = [4, 40] + [octet for k in range(40) for octet in [1, k, 0, 1] + [0] * 9]
        self.assertRaises(Unread, read_message, tuple(forty))
        ordered = [4, 40] + [octet for sign in sorted(SIGNS)[:40] for octet in text(sign) + [0, 1] + [0] * 9]
        self.assertEqual(len(read_message(tuple(ordered))[1]), 40)

    def test_refused_octets(self):
        for octets in ODD + ([3], (3, 256), (3, -1), (3, True), (3, None), (3,) * 4001, {3: 3}):
            good = type(octets) is tuple and len(octets) <= 4000 and all(
                type(octet) is int and 0 <= octet <= 255 for octet in octets)
            with self.assertRaises(Unread if good else BadOctets):
                read_message(octets)


if __name__ == "__main__":
    unittest.main()
