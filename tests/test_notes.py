import itertools
import unittest

from meetstores.errors import BadHost, BadKey, BadName, BadNote, BadSerial, BadStore, BadValue
from meetstores.notes import covers, differ, merged, name_of, parts_of, read, written
from samples import NO_PAST, ODD, chance, note

LAST = 2 ** 27 - 1
GOOD = note("a", 2, 5, {0: 3, 2: 4}, "fig")
BAD_NOTES = (
    list(GOOD), GOOD[:4], GOOD + (1,), (), None, "a", 5, True, {}, (GOOD,),
    ("",) + GOOD[1:], ("a" * 41,) + GOOD[1:], ("'",) + GOOD[1:], ("a\n",) + GOOD[1:], (None,) + GOOD[1:],
    (5,) + GOOD[1:], (("a",),) + GOOD[1:],
    ("a", 8, 5, NO_PAST, 1), ("a", -1, 5, NO_PAST, 1), ("a", True, 5, NO_PAST, 1), ("a", None, 5, NO_PAST, 1),
    ("a", "1", 5, NO_PAST, 1), ("a", 2, 0, NO_PAST, 1), ("a", 2, -1, NO_PAST, 1), ("a", 2, LAST + 1, NO_PAST, 1),
    ("a", 2, True, NO_PAST, 1), ("a", 2, None, NO_PAST, 1), ("a", 2, (5,), NO_PAST, 1),
    ("a", 2, 5, (0,) * 7, 1), ("a", 2, 5, (0,) * 9, 1), ("a", 2, 5, [0] * 8, 1), ("a", 2, 5, None, 1),
    ("a", 2, 5, (0,) * 7 + (-1,), 1), ("a", 2, 5, (LAST + 1,) + (0,) * 7, 1), ("a", 2, 5, (False,) * 8, 1),
    ("a", 2, 5, (0,) * 7 + (None,), 1), ("a", 2, 5, 0, 1),
    note("a", 2, 5, {2: 5}), note("a", 2, 5, {2: 6}), note("a", 7, LAST, {7: LAST}),
    GOOD[:4] + (True,), GOOD[:4] + (2 ** 40 + 1,), GOOD[:4] + (-2 ** 40 - 1,), GOOD[:4] + ("a" * 201,),
    GOOD[:4] + ("\u00e9",), GOOD[:4] + ((),), GOOD[:4] + ([],), GOOD[:4] + ({},),
)
GOOD_NOTES = (
    GOOD, note("a", 0, 1), note("a" * 40, 7, LAST, {7: LAST - 1}, 2 ** 40), note("?! ", 7, 1, (LAST,) * 7 + (0,), ""),
    note("Z9", 3, LAST, (LAST,) * 3 + (0,) + (LAST,) * 4, -2 ** 40), note(" ", 1, 2, {1: 1}, "a" * 200),
)


def is_covering(one, two):
    return one[0] == two[0] and two[2] <= one[3][two[1]]


def together(store, other):
    """merged, word by word."""
    places = sorted({(one[0], one[1]) for one in store + other})
    kept = []
    for place in places:
        ours = [one for one in store if (one[0], one[1]) == place]
        theirs = [one for one in other if (one[0], one[1]) == place]
        kept.append(theirs[0] if theirs and (not ours or theirs[0][2] > ours[0][2]) else ours[0])
    return tuple(one for one in kept if not any(two != one and is_covering(two, one) for two in kept))


def some_store(source, keys="ab", hosts=3, serials=6):
    """A store of notes at random that may stand side by side."""
    store = []
    for key in keys:
        for host in range(hosts):
            serial = source.randrange(1, serials)
            past = [source.randrange(serials) * source.randrange(2) for _ in range(8)]
            past[host] = source.randrange(serial)
            one = (key, host, serial, tuple(past), source.randrange(99))
            beside = [two for two in store if is_covering(one, two) or is_covering(two, one)]
            if source.random() < 0.8 and not beside:
                store.append(one)
    return tuple(store)


class Names(unittest.TestCase):
    def test_there_and_back(self):
        for host in range(8):
            for serial in (1, 2, 1000, LAST):
                name = host * 134217728 + serial
                self.assertEqual(name_of(note("a", host, serial)), name)
                self.assertEqual(parts_of(name), (host, serial))
        for one in GOOD_NOTES:
            self.assertEqual(parts_of(name_of(one)), one[1:3])

    def test_numbers_that_are_no_names(self):
        for host in range(9):
            with self.assertRaises(BadName):
                parts_of(host * 2 ** 27)
        for value in (-1, 2 ** 30 + 1, 10 ** 5000, True, False, None, "1", "", (), (1,), [1], {}, (0, 1)):
            with self.assertRaises(BadName):
                parts_of(value)

    def test_values_that_are_no_notes(self):
        for value in BAD_NOTES:
            with self.subTest(value), self.assertRaises(BadNote):
                name_of(value)
            with self.assertRaises(BadNote):
                covers(value, GOOD)
            with self.assertRaises(BadNote):
                covers(GOOD, value)


class Covers(unittest.TestCase):
    def test_covers(self):
        one = note("a", 2, 5, {0: 3, 2: 4})
        for other, expected in (
            (note("a", 0, 1), True), (note("a", 0, 3), True), (note("a", 0, 4), False), (note("a", 1, 1), False),
            (note("a", 2, 4), True), (note("a", 2, 5), False), (note("a", 2, 6), False), (one, False),
            (note("b", 0, 1), False), (note("A", 0, 1), False), (note("a", 0, 3, {2: 9}), True),
        ):
            with self.subTest(other):
                self.assertIs(covers(one, other), expected)

    def test_any_two(self):
        source = chance(19)
        for _ in range(200):
            rows = some_store(source) + some_store(source)
            for one, two in itertools.product(rows, rows):
                self.assertIs(covers(one, two), is_covering(one, two))


class Stores(unittest.TestCase):
    def refused(self, index, store):
        calls = (
            lambda: read(store, "a"), lambda: written(store, 0, LAST, "a", 1), lambda: merged(store, ()),
            lambda: merged((), store), lambda: differ(store, ()), lambda: differ((), store),
        )
        for call in calls:
            with self.assertRaises(BadStore) as caught:
                call()
            self.assertEqual(caught.exception.index, index)

    def test_values_that_are_no_tuples(self):
        for value in ([], [GOOD], None, True, 0, "", "a", {}, {"a": GOOD}):
            self.refused(None, value)

    def test_items_that_are_no_notes(self):
        before = (note("A", 0, 1), note("A", 1, 1))
        for value in BAD_NOTES:
            self.refused(0, (value,))
            self.refused(0, (value, value))
            self.refused(2, before + (value, note("b", 0, 1)))

    def test_items_that_are_not_greater(self):
        one = note("b", 3, 5)
        for other in (one, note("b", 3, 6), note("b", 2, 9), note("a", 7, 1), note("Z", 7, 1), note(" ", 4, 1)):
            self.refused(1, (one, other))
            self.refused(2, (note("a", 0, 1), one, other, note("c", 0, 1)))
        self.refused(3, (note("a", 0, 1), note("b", 0, 1), note("c", 0, 1), note("b", 1, 1)))
        for host in (0, 1, 3, 4, 6):
            self.refused(3, (note("b", 1, 5), note("b", 4, 5), note("b", 6, 5), note("b", host, 6)))

    def test_items_that_cover_or_are_covered(self):
        one, two, three = note("b", 1, 5), note("b", 2, 5), note("b", 4, 5)
        self.refused(1, (one, note("b", 4, 5, {1: 5})))
        self.refused(2, (one, two, note("b", 4, 5, {1: 9})))
        self.refused(2, (one, two, note("b", 4, 5, {2: 5}), three))
        self.refused(1, (note("b", 1, 5, {4: 5}), three))
        self.refused(2, (note("b", 1, 5, {4: 6}), two, three))
        self.refused(3, (note("a", 1, 5), note("b", 1, 5, {4: 5}), two, three, [5]))

    def test_stores_that_can_stand(self):
        for store in (
            (), (GOOD,), tuple(sorted(GOOD_NOTES[1:])), (note("b", 1, 5), note("b", 4, 5, {1: 4})),
            (note("b", 1, 5, {4: 4}), note("b", 4, 5)), (note("a", 1, 5, {4: 5}), note("b", 4, 5)),
            (note("B", 0, 1), note("a", 0, 1)), tuple(note("k", host, 1) for host in range(8)),
            (note("a", 0, 7), note("b", 0, 7)),
        ):
            self.assertEqual(merged(store, ()), store)
            self.assertEqual(merged((), store), store)
            self.assertEqual(differ(store, store), ())


class Read(unittest.TestCase):
    def test_values_by_hosts(self):
        store = (note("a", 1, 9, value="x"), note("b", 0, 2, value=None), note("b", 3, 1, value=7),
                 note("b", 7, 4, value=""), note("c", 0, 3, value=-1))
        for key, values in (("a", ("x",)), ("b", (None, 7, "")), ("c", (-1,)), ("d", ()), ("A", ()), ("bb", ())):
            self.assertEqual(read(store, key), values)
        self.assertEqual(read((), "a"), ())

    def test_refused(self):
        for key in ("", "a" * 41, "'", "\u00e9", "a\n", None, True, 1, (), ("a",), [], {}):
            with self.assertRaises(BadKey):
                read((), key)
            with self.assertRaises(BadStore):
                read([], key)


class Written(unittest.TestCase):
    def test_over_none(self):
        one = written((), 3, 7, "b", "fig")
        self.assertEqual(one, (note("b", 3, 7, value="fig"),))
        self.assertEqual(written(one, 0, 1, "a", None), (note("a", 0, 1), one[0]))
        self.assertEqual(written(one, 3, 8, "c", 5), (one[0], note("c", 3, 8, value=5)))
        self.assertEqual(written(written(one, 0, 1, "a", 1), 3, 8, "ab", 2)[1], note("ab", 3, 8, value=2))

    def test_over_one(self):
        store = (note("a", 0, 1), note("b", 1, 4, {0: 3, 1: 2}, "x"), note("c", 0, 2))
        self.assertEqual(written(store, 5, 6, "b", "y"),
                         (store[0], note("b", 5, 6, {0: 3, 1: 4}, "y"), store[2]))
        self.assertEqual(written(store, 1, 9, "b", "y")[1], note("b", 1, 9, {0: 3, 1: 4}, "y"))

    def test_over_several(self):
        store = (note("a", 0, 1), note("b", 0, 4, {1: 2, 6: 9}), note("b", 1, 3, {0: 2, 1: 1}), note("b", 7, 8, {6: 5}),
                 note("c", 0, 5))
        self.assertEqual(written(store, 1, 4, "b", 1),
                         (store[0], note("b", 1, 4, {0: 4, 1: 3, 6: 9, 7: 8}, 1), store[4]))

    def test_past_word_by_word(self):
        source = chance(20)
        for _ in range(200):
            store = some_store(source, "abc", 4)
            key, host = source.choice("abcd"), source.randrange(8)
            over = [one for one in store if one[0] == key]
            past = tuple(max([0] + [one[3][k] for one in over] + [one[2] for one in over if one[1] == k])
                         for k in range(8))
            new = (key, host, 50, past, 5)
            self.assertEqual(written(store, host, 50, key, 5),
                             tuple(sorted([one for one in store if one[0] != key] + [new])))

    def test_serials(self):
        store = (note("a", 0, 4), note("b", 1, 2, {0: 9, 5: 3}), note("c", 2, LAST))
        for host, last in ((0, 9), (1, 2), (5, 3), (6, 0)):
            for serial in (last, last - 1, 1 if last else 0):
                with self.assertRaises(BadSerial):
                    written(store, host, serial, "z", 1)
            for serial in (last + 1, last + 2, LAST):
                self.assertEqual(written(store, host, serial, "z", 1)[-1], note("z", host, serial, value=1))
        for serial in (LAST, LAST + 1):
            with self.assertRaises(BadSerial):
                written(store, 2, serial, "z", 1)

    def test_serials_at_any_place(self):
        for host in (0, 1, 7):
            other = (host + 1) % 8
            notes = (note("a", host, 3), note("b", host, 5, {host: 2}), note("c", other, 9, {host: 4}))
            for names in itertools.permutations("abc"):
                store = tuple(sorted((name,) + one[1:] for name, one in zip(names, notes)))
                for left_out in range(4):
                    some = store[:left_out] + store[left_out + 1:]
                    last = max(max(one[3][host], one[2] if one[1] == host else 0) for one in some)
                    with self.assertRaises(BadSerial):
                        written(some, host, last, "z", 1)
                    new = note("z", host, last + 1, value=1)
                    self.assertEqual(written(some, host, last + 1, "z", 1), some + (new,))

    def test_refused(self):
        for host in (8, -1, True, None, "0", (), [0], {}):
            with self.assertRaises(BadHost):
                written((), host, 1, "a", 1)
        for serial in (0, -1, LAST + 1, 10 ** 5000, True, None, "1", (), [1], {}):
            with self.assertRaises(BadSerial):
                written((), 0, serial, "a", 1)
        for key in ("", "a" * 41, "'", None, 1, True, (), ["a"], {}):
            with self.assertRaises(BadKey):
                written((), 0, 1, key, 1)
        for value in (True, False, 2 ** 40 + 1, -2 ** 40 - 1, "a" * 201, "\n", (), [], {}, (1,)):
            with self.assertRaises(BadValue):
                written((), 0, 1, "a", value)

    def test_the_leftmost_wrong_argument(self):
        bad = ([], 8, 0, "", ())
        good = ((), 0, 1, "a", 1)
        errors = (BadStore, BadHost, BadSerial, BadKey, BadValue)
        for which in itertools.product((False, True), repeat=5):
            if any(which):
                with self.assertRaises(errors[which.index(True)]):
                    written(*[wrong if is_wrong else right for is_wrong, wrong, right in zip(which, bad, good)])


class Merged(unittest.TestCase):
    def test_keys_and_hosts_apart(self):
        one, two = (note("a", 1, 1), note("c", 1, 2)), (note("a", 0, 1), note("b", 1, 1))
        self.assertEqual(merged(one, two), (two[0], one[0], two[1], one[1]))
        self.assertEqual(merged(two, one), merged(one, two))

    def test_the_greater_serial(self):
        one, two = note("a", 1, 4, value="old"), note("a", 1, 5, {1: 4}, "new")
        self.assertEqual(merged((one,), (two,)), (two,))
        self.assertEqual(merged((two,), (one,)), (two,))

    def test_the_first_one_if_they_are_the_same(self):
        one, two = note("a", 1, 4, value="one"), note("a", 1, 4, {0: 9}, "two")
        self.assertEqual(merged((one,), (two,)), (one,))
        self.assertEqual(merged((two,), (one,)), (two,))

    def test_what_is_covered(self):
        one, two = note("a", 1, 4), note("a", 3, 1, {1: 4})
        self.assertEqual(merged((one,), (two,)), (two,))
        self.assertEqual(merged((two,), (one,)), (two,))
        newer = note("a", 1, 5, {1: 4})
        self.assertEqual(merged((newer,), (two,)), (newer, two))
        # The elder one of a host gives way before it could cover.
        self.assertEqual(merged((note("a", 1, 4, {3: 2}),), (newer, two)), (newer, two))

    def test_two_that_cover_one_another(self):
        one, two = note("a", 1, 4, {3: 5}), note("a", 3, 5, {1: 4})
        self.assertEqual(merged((one,), (two,)), ())

    def test_word_by_word(self):
        source = chance(21)
        for _ in range(600):
            one, two = some_store(source), some_store(source)
            self.assertEqual(merged(one, two), together(one, two))
            self.assertEqual(merged(one, one), one)

    def test_stores_that_hosts_have(self):
        source = chance(22)
        for _ in range(30):
            stores, last = [()] * 4, [0] * 4
            for _ in range(40):
                host = source.randrange(4)
                if source.random() < 0.5:
                    last[host] += 1
                    stores[host] = written(stores[host], host, last[host], source.choice("abc"), last[host])
                else:
                    other = stores[source.randrange(4)]
                    both = merged(stores[host], other)
                    self.assertEqual(both, merged(other, stores[host]))
                    self.assertEqual(both, merged(both, other))
                    self.assertEqual(merged(both, stores[host]), both)
                    stores[host] = both


class Differ(unittest.TestCase):
    def test_names(self):
        one = (note("a", 1, 1), note("b", 0, 9), note("c", 1, 2))
        two = (note("a", 1, 1, value=5), note("b", 0, 8), note("d", 7, 2))
        names = (8, 9, 2 ** 27 + 2, 7 * 2 ** 27 + 2)
        self.assertEqual(differ(one, two), names)
        self.assertEqual(differ(two, one), names)
        self.assertEqual(differ(one, ()), (9, 2 ** 27 + 1, 2 ** 27 + 2))
        self.assertEqual(differ((), one), (9, 2 ** 27 + 1, 2 ** 27 + 2))
        self.assertEqual(differ((), ()), ())
        self.assertEqual(differ(one, one), ())

    def test_a_name_is_told_once(self):
        self.assertEqual(differ((note("a", 0, 7), note("b", 0, 7)), ()), (7,))
        self.assertEqual(differ((note("a", 0, 7), note("b", 0, 7)), (note("a", 0, 7),)), ())


class OddValues(unittest.TestCase):
    def test_nothing_else_is_raised(self):
        for value in ODD:
            for call, error in (
                (lambda: name_of(value), BadNote), (lambda: parts_of(value), BadName),
                (lambda: covers(value, GOOD), BadNote), (lambda: covers(GOOD, value), BadNote),
                (lambda: read(value, "a"), BadStore), (lambda: read((), value), BadKey),
                (lambda: merged(value, ()), BadStore), (lambda: merged((), value), BadStore),
                (lambda: differ(value, ()), BadStore), (lambda: differ((), value), BadStore),
                (lambda: written(value, 0, 9, "a", 1), BadStore), (lambda: written((), value, 1, "a", 1), BadHost),
                (lambda: written((), 0, value, "a", 1), BadSerial), (lambda: written((), 0, 1, value, 1), BadKey),
                (lambda: written((), 0, 1, "a", value), BadValue),
            ):
                try:
                    call()
                except error:
                    pass


if __name__ == "__main__":
    unittest.main()
