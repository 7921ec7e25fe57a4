import itertools
import unittest

from histories import KEYS, VALUES, history, stores_of, table_of
from lines import give
from meetstores.choices import chosen, doubtful, settle_all
from meetstores.errors import BadHost, BadKey, BadManner, BadSerial, BadStore
from meetstores.hosts import Host
from meetstores.keeping import risen
from meetstores.notes import written
from meetstores.worlds import World
from samples import ODD, chance, note

TOP = 2 ** 40
LAST = 2 ** 27 - 1
MANNERS = ("least", "greatest", "first", "last", "sum", "most")


def in_order(value):
    return (value is not None, isinstance(value, str), 0 if value is None else value)


def looked(values, manner):
    """The value that is chosen of some, in the order of their hosts."""
    ranked = sorted(values, key=in_order)
    if manner == "sum":
        total = sum(value for value in values if isinstance(value, int))
        return TOP if total > TOP else -TOP if total < -TOP else total
    if manner == "most":
        return sorted(ranked, key=lambda value: -ranked.count(value))[0]
    return {"least": ranked[0], "greatest": ranked[-1], "first": values[0], "last": values[-1]}[manner]


def store_of(*values, key="a"):
    """A store with notes of a key side by side, one for each value."""
    return tuple(note(key, host, 1, value=value) for host, value in enumerate(values))


class Chosen(unittest.TestCase):
    def test_stores_of_any_history(self):
        many = 0
        for seed in range(8):
            for store in stores_of(seed + 540)[::3]:
                table = table_of(store)
                self.assertEqual(doubtful(store), tuple(sorted(key for key in table if len(table[key]) > 1)))
                for key, values in table.items():
                    many += len(values) > 1
                    for manner in MANNERS:
                        self.assertEqual(chosen(store, key, manner), looked(values, manner))
                for manner in MANNERS:
                    self.assertIsNone(chosen(store, "nothing", manner))
        self.assertGreater(many, 100)

    def test_all_kinds_of_values(self):
        source = chance(541)
        values = (None, 0, 5, -5, TOP, -TOP, "", "a", "B", "0", "10", "9", " ", "a!", "none")
        for _ in range(800):
            some = tuple(source.choice(values) for _ in range(source.randrange(1, 9)))
            for manner in MANNERS:
                self.assertEqual(chosen(store_of(*some), "a", manner), looked(some, manner))

    def test_each_manner(self):
        for values, answers in (
            (("b", 5, None, "a", 7, 5), (None, "b", "b", 5, 17, 5)), ((7, "x"), (7, "x", 7, "x", 7, 7)), ((None,), (None, None, None, None, 0, None)),
            (("b", "a"), ("a", "b", "b", "a", 0, "a")), (("x", None), (None, "x", "x", None, 0, None)), ((3,), (3,) * 6),
            ((-3, -2, -2), (-3, -2, -3, -2, -7, -2)), (("Z", "a", "0", " "), (" ", "a", "Z", " ", 0, " ")),
            ((1, 2, 2, 1, 9), (1, 9, 1, 9, 15, 1)), (("x", "x", 1, 1, None, None), (None, "x", "x", None, 2, None)),
            (("x", "x", 1, 1, None), (None, "x", "x", None, 2, 1)), (("", None, ""), (None, "", "", "", 0, "")),
            (("5", 5, "5", 6), (5, "5", "5", 6, 11, "5")), ((0, None), (None, 0, 0, None, 0, None)),
        ):
            for manner, answer in zip(MANNERS, answers):
                self.assertEqual(chosen(store_of(*values), "a", manner), answer)

    def test_sums_beyond(self):
        for sign in (1, -1):
            for values, total in (((TOP,), TOP), ((TOP, 1), TOP), ((TOP, -1), TOP - 1), ((TOP - 1, 1), TOP), ((TOP,) * 8, TOP),
                                  ((TOP, TOP, -TOP), TOP), ((TOP, TOP, -TOP, -1), TOP - 1), ((TOP, "x", None, 1), TOP),
                                  ((TOP, TOP, -TOP, -TOP, -TOP, -TOP), -TOP)):
                signed = [sign * value if isinstance(value, int) else value for value in values]
                self.assertEqual(chosen(store_of(*signed), "a", "sum"), sign * total)

    def test_first_and_last_by_the_hosts(self):
        store = (note("a", 2, 9, value="two"), note("a", 5, 1, value="five"), note("b", 0, 1, value=1), note("b", 7, 1, value=2))
        self.assertEqual([chosen(store, key, manner) for key in "ab" for manner in ("first", "last")], ["two", "five", 1, 2])

    def test_doubtful(self):
        self.assertEqual(doubtful(()), ())
        self.assertEqual(doubtful(store_of(1)), ())
        self.assertEqual(doubtful(store_of(1, 1, 1) + store_of(5, key="b") + store_of(None, None, key="c")), ("a", "c"))

    def test_refused(self):
        for store, index in ((None, None), ([], None), ((1,), 0), ((note("a", 0, 0),), 0), (store_of(1, 2) * 2, 2)):
            for deed in (lambda: chosen(store, None, None), lambda: chosen(store, "a", "least"), lambda: doubtful(store)):
                with self.assertRaises(BadStore) as caught:
                    deed()
                self.assertEqual(caught.exception.index, index)
        for key in ODD:
            if type(key) is not str or not 1 <= len(key) <= 40 or set(key) - set("a"):
                for manner in ("least", None):
                    self.assertRaises(BadKey, chosen, store_of(1, 2), key, manner)
        for manner in ODD + ("Least", "least ", "max", "sums", ("least",), ["sum"], "leastgreatest"):
            for key in ("a", "nothing"):
                self.assertRaises(BadManner, chosen, store_of(1, 2), key, manner)
            self.assertRaises(BadManner, settle_all, Host(0, ()), manner)


class Settling(unittest.TestCase):
    def clash(self, world, source, keys=5):
        """Writes of all hosts side by side."""
        for key in "abcdefgh"[:keys]:
            for number in source.sample(range(3), source.choice((1, 2, 3))):
                world.write(number, key, source.choice(VALUES))

    def test_at_hosts_of_any_history(self):
        many = 0
        for seed in range(12):
            source = chance(seed + 550)
            for at, world in enumerate(history(seed + 550, 3, 100, KEYS[:6], VALUES)):
                if at % 12 == 11:
                    host, manner = world.host(source.randrange(3)), source.choice(MANNERS)
                    number, peers, life, serial, edition, store = host.state()
                    keys = doubtful(store)
                    for at_key, key in enumerate(keys, 1):
                        store = written(store, number, serial + at_key, key, looked(table_of(store)[key], manner))
                    self.assertEqual(settle_all(host, manner), len(keys))
                    self.assertEqual(host.state(), (number, peers, life, serial + len(keys), edition + len(keys), store))
                    self.assertEqual(doubtful(host.store()), ())
                    self.assertEqual(settle_all(host, manner), 0)
                    self.assertEqual(host.state()[5], store)
                    many += len(keys)
        self.assertGreater(many, 20)

    def test_hosts_that_are_alike_choose_alike(self):
        for seed, manner in itertools.product(range(4), MANNERS):
            world = World(3, ((0, 1), (1, 2)))
            self.clash(world, chance(seed + 560))
            self.assertIsNotNone(world.settle(60))
            keys = doubtful(world.store(0))
            self.assertGreater(len(keys), 0)
            expected = {key: chosen(world.store(0), key, manner) for key in keys}
            for number in range(3):
                twin = risen(world.state(number))
                self.assertEqual(settle_all(twin, manner), len(keys))
                self.assertEqual({key: twin.read(key) for key in keys}, {key: (expected[key],) for key in keys})

    def test_one_host_settles(self):
        for manner in MANNERS:
            world = World(3, ((0, 1), (1, 2)))
            self.clash(world, chance(570))
            world.settle(60)
            many = len(doubtful(world.store(1)))
            self.assertEqual(settle_all(world.host(1), manner), many)
            world.settle(60)
            self.assertTrue(world.are_alike())
            self.assertEqual(doubtful(world.store(2)), ())

    def test_several_hosts_settle_at_a_time_and_once_more(self):
        """All come to one value again, the same, whoever settles, by any manner but "sum" and "most"."""
        for seed, manner in itertools.product(range(6), MANNERS[:4]):
            source = chance(seed + 580)
            world = World(3, ((0, 1), (1, 2)))
            self.clash(world, source)
            world.settle(60)
            keys = doubtful(world.store(0))
            expected = {key: chosen(world.store(0), key, manner) for key in keys}
            for number in source.sample(range(3), source.choice((2, 3))):
                self.assertEqual(settle_all(world.host(number), manner), len(keys))
            world.settle(60)
            # The notes of all that settled stand side by side, with the same value.
            self.assertEqual(doubtful(world.store(0)), keys)
            for key in keys:
                self.assertEqual(set(world.read(1, key)), {expected[key]})
            settle_all(world.host(source.randrange(3)), manner)
            world.settle(60)
            self.assertTrue(world.are_alike())
            self.assertEqual(doubtful(world.store(0)), ())
            self.assertEqual({key: world.read(2, key) for key in keys}, {key: (expected[key],) for key in keys})

    def test_serials_that_do_not_reach(self):
        store = store_of(1, 2) + store_of(5, key="b") + store_of(1, 2, 3, key="c") + store_of("x", None, key="d")
        for left in range(5):
            host = risen((7, (), 1, LAST - left, 5, store))
            state = host.state()
            for manner in MANNERS:
                if left < 3:
                    self.assertRaises(BadSerial, settle_all, host, manner)
                    self.assertEqual(host.state(), state)
            self.assertRaises(BadManner, settle_all, host, "none")
            if left >= 3:
                self.assertEqual(settle_all(host, "sum"), 3)
                self.assertEqual(host.state()[3], LAST - left + 3)
                self.assertEqual([host.read(key) for key in "abcd"], [(3,), (5,), (6,), (0,)])
        host = risen((7, (), 1, LAST, 5, store_of(5)))
        self.assertEqual(settle_all(host, "least"), 0)

    def test_a_greater_serial_in_the_store(self):
        host = Host(7, (1,))
        give(host, 1, ("notes", store_of(1, 2) + store_of(3, 4, key="b") + (note("c", 7, 50, value=1),)))
        state = host.state()
        self.assertRaises(BadSerial, settle_all, host, "least")
        self.assertEqual(host.state(), state)

    def test_refused_hosts(self):
        for host in ODD + (World(2, ()), Host, Host(0, ()).state(), "host"):
            for manner in ("least", None):
                self.assertRaises(BadHost, settle_all, host, manner)


if __name__ == "__main__":
    unittest.main()
