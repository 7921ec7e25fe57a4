import unittest
from collections import Counter

from histories import KEYS, VALUES, history
from lines import give
from meetstores.errors import BadHost, BadKey, BadSerial, BadValue, Behind
from meetstores.hosts import Host
from meetstores.keeping import risen
from meetstores.notes import covers
from meetstores.trips import Trip
from meetstores.worlds import World
from samples import NO_PAST, ODD, chance, note

LAST = 2 ** 27 - 1
BAD_KEYS = tuple(value for value in ODD if type(value) is not str or not 1 <= len(value) <= 40 or set(value) - set("a"))
BAD_VALUES = ("'", True, (), 2 ** 40 + 1, "x" * 201, [], {})
NO_HOSTS = ODD + (World(2, ()), Host, Trip(), Host(0, ()).state(), "host")


def has(host, key):
    """What a host's store has of a key: of each host the greatest serial, as a note's own or in a past."""
    notes = [one for one in host.store() if one[0] == key]
    return tuple(max([one[3][k] for one in notes] + [one[2] for one in notes if one[1] == k] + [0]) for k in range(8))


def host_with(number, *notes, serial=0):
    return risen((number, (7,) if number < 7 else (6,), 1, serial, 1, notes))


def knows(*serials):
    return tuple(serials) + (0,) * (8 - len(serials))


class Trips(unittest.TestCase):
    def test_a_new_trip(self):
        trip = Trip()
        self.assertEqual(trip.known("a"), NO_PAST)
        for host in (Host(0, ()), host_with(3, note("a", 1, 5))):
            self.assertIs(trip.is_behind(host, "a"), False)
        self.assertEqual(trip.known("a"), NO_PAST)

    def test_reads(self):
        host = host_with(3, note("a", 1, 5, {2: 4, 1: 3}, "x"), note("a", 6, 1, {2: 9}, "y"), note("b", 0, 3, value="z"))
        trip = Trip()
        self.assertEqual(trip.read(host, "a"), ("x", "y"))
        self.assertEqual(trip.known("a"), (0, 5, 9, 0, 0, 0, 1, 0))
        self.assertEqual([trip.known("b"), trip.known("c")], [NO_PAST] * 2)
        self.assertEqual(trip.read(host, "c"), ())
        self.assertEqual(trip.known("c"), NO_PAST)
        self.assertEqual(trip.read(host, "b"), ("z",))
        self.assertEqual(trip.known("b"), knows(3))

    def test_writes(self):
        host, trip = Host(2, ()), Trip()
        host.write("b", 0)
        self.assertIsNone(trip.write(host, "a", "x"))
        self.assertEqual(host.read("a"), ("x",))
        self.assertEqual(trip.known("a"), knows(0, 0, 2))
        trip.write(host, "a", None)
        self.assertEqual(trip.known("a"), knows(0, 0, 3))
        self.assertEqual(trip.known("b"), NO_PAST)
        self.assertEqual(host.store(), (note("a", 2, 3, {2: 2}), note("b", 2, 1, value=0)))

    def test_a_write_takes_the_place_of_what_the_host_has(self):
        host, trip = host_with(0, note("a", 1, 5, {2: 4}), note("a", 6, 1)), Trip()
        trip.write(host, "a", 1)
        self.assertEqual(trip.known("a"), (1, 5, 4, 0, 0, 0, 1, 0))
        self.assertEqual(trip.known("a"), has(host, "a"))

    def test_behind_by_a_note_of_its_own_of_another_and_by_a_past(self):
        seen = host_with(5, note("a", 1, 5, {2: 4}, "x"))
        cases = (
            (host_with(1), True), (host_with(0), True), (host_with(1, note("a", 1, 4, {2: 4}), serial=4), True),
            (host_with(0, note("a", 1, 4, {2: 4})), True), (host_with(0, note("a", 1, 5, {2: 3})), True),
            (host_with(0, note("a", 1, 6, {2: 3})), True), (host_with(0, note("a", 1, 5)), True),
            (host_with(0, note("b", 1, 5, {2: 4})), True), (host_with(0, note("a", 2, 4)), True),
            (host_with(0, note("a", 1, 5, {2: 4})), False), (host_with(0, note("a", 1, 6, {2: 4, 1: 5})), False),
            (host_with(0, note("a", 1, 5), note("a", 2, 4)), False), (host_with(0, note("a", 3, 1, {1: 5, 2: 4})), False),
            (host_with(0, note("a", 0, 9, {1: 7, 2: 7}), serial=9), False), (host_with(0, note("a", 2, 9, {1: 5})), False),
        )
        for host, is_behind in cases:
            trip = Trip()
            trip.read(seen, "a")
            self.assertEqual(trip.known("a"), knows(0, 5, 4))
            self.assertIs(trip.is_behind(host, "a"), is_behind)
            self.assertIs(trip.is_behind(host, "c"), False)
            before = host.state()
            if is_behind:
                self.assertRaises(Behind, trip.read, host, "a")
                self.assertRaises(Behind, trip.write, host, "a", 1)
                self.assertEqual((trip.known("a"), host.state()), (knows(0, 5, 4), before))
            else:
                values = trip.read(host, "a")
                self.assertEqual(values, host.read("a"))
                self.assertEqual(trip.known("a"), tuple(map(max, has(host, "a"), knows(0, 5, 4))))
                trip.write(host, "a", 1)
                self.assertTrue(all(covers(host.store()[0], one) for one in seen.store()))

    def test_another_key_is_another_matter(self):
        one, other, trip = Host(0, ()), Host(1, ()), Trip()
        trip.write(one, "a", 1)
        self.assertEqual(trip.read(other, "b"), ())
        trip.write(other, "b", 2)
        self.assertTrue(trip.is_behind(other, "a"))
        self.assertTrue(trip.is_behind(one, "b"))

    def test_hosts_that_are_alike(self):
        world, trip = World(3, ((0, 1), (1, 2))), Trip()
        trip.write(world.host(0), "a", 1)
        for number in (1, 2):
            self.assertTrue(trip.is_behind(world.host(number), "a"))
        world.settle(20)
        for number in range(3):
            self.assertEqual(trip.read(world.host(number), "a"), (1,))
        trip.write(world.host(2), "a", 2)
        self.assertEqual(trip.known("a"), knows(1, 0, 1))
        self.assertRaises(Behind, trip.read, world.host(0), "a")
        world.settle(20)
        self.assertEqual(trip.read(world.host(0), "a"), (2,))

    def test_what_is_known_is_never_less(self):
        trip = Trip()
        trip.read(host_with(0, note("a", 1, 5, {2: 4})), "a")
        trip.read(host_with(0, note("a", 2, 9, {1: 5, 3: 1})), "a")
        self.assertEqual(trip.known("a"), knows(0, 5, 9, 1))
        trip.read(host_with(0, note("a", 1, 8, {2: 9, 3: 1})), "a")
        self.assertEqual(trip.known("a"), knows(0, 8, 9, 1))

    def test_hand_on(self):
        host, others = Host(0, ()), Host(1, ())
        one, two, three = Trip(), Trip(), Trip()
        one.write(host, "a", 1)
        one.write(host, "b", 2)
        two.write(others, "a", 3)
        self.assertIsNone(one.hand_on(two))
        self.assertEqual([two.known("a"), two.known("b"), two.known("c")], [knows(1, 1), knows(2), NO_PAST])
        self.assertEqual([one.known("a"), one.known("b")], [knows(1), knows(2)])
        for place in (host, others):
            self.assertRaises(Behind, two.read, place, "a")
        two.hand_on(three)
        self.assertEqual([three.known("a"), three.known("b")], [knows(1, 1), knows(2)])
        # What is learned later is not handed on, and what is known more is not forgotten.
        one.write(host, "a", 4)
        self.assertEqual(three.known("a"), knows(1, 1))
        three.hand_on(one)
        self.assertEqual(one.known("a"), knows(3, 1))

    def test_hand_on_in_a_row_and_to_itself(self):
        hosts, trips = [Host(k, ()) for k in range(8)], [Trip() for _ in range(8)]
        for host, trip in zip(hosts, trips):
            trip.write(host, "a", 1)
            trip.hand_on(trip)
            self.assertEqual(trip.known("a"), has(host, "a"))
        for one, two in zip(trips, trips[1:]):
            one.hand_on(two)
        for k, trip in enumerate(trips):
            self.assertEqual(trip.known("a"), knows(*[1] * (k + 1)))
            self.assertEqual([trip.is_behind(host, "a") for host in hosts], [k > 0 or j > k for j in range(8)])

    def test_a_host_that_fell_is_the_same_one(self):
        host, trip = Host(0, ()), Trip()
        trip.write(host, "a", 1)
        host.fall()
        self.assertEqual(trip.read(host, "a"), (1,))
        self.assertEqual(trip.read(risen(host.state()), "a"), (1,))
        self.assertRaises(Behind, trip.read, Host(0, ()), "a")

    def test_over_histories(self):
        """What is read never covers less than what was read or written before, and a write covers all that."""
        source, seen = chance(520), Counter()
        for seed in range(10):
            trips, past = [Trip() for _ in range(3)], [{} for _ in range(3)]
            for world in history(seed + 520, 3, 200, KEYS[:4], VALUES):
                host, who, key = world.host(source.randrange(3)), source.randrange(3), source.choice(KEYS[:4])
                trip, met = trips[who], past[who].setdefault(key, set())
                serials = {number: [one[2] for one in met if one[1] == number] for number in range(8)}
                is_behind = any(max(serials[k] + [one[3][k] for one in met] + [0]) > has(host, key)[k] for k in range(8))
                self.assertEqual(trip.is_behind(host, key), is_behind)
                deed, before = source.choice(("read", "write", "hand on", "")), host.state()
                if deed == "hand on":
                    other = source.randrange(3)
                    trip.hand_on(trips[other])
                    for known, notes in past[who].items():
                        past[other].setdefault(known, set()).update(notes)
                elif deed and is_behind:
                    self.assertRaises(Behind, *((trip.read, host, key) if deed == "read" else (trip.write, host, key, 1)))
                    self.assertEqual(host.state(), before)
                    seen["behind"] += 1
                elif deed == "read":
                    self.assertEqual(trip.read(host, key), host.read(key))
                    now = [one for one in host.store() if one[0] == key]
                    # All that was met is there, or covered.
                    self.assertTrue(all(any(one == other or covers(other, one) for other in now) for one in met))
                    met.update(now)
                    seen["read"] += 1
                elif deed == "write":
                    trip.write(host, key, 5)
                    now = [one for one in host.store() if one[0] == key]
                    self.assertEqual(len(now), 1)
                    self.assertTrue(all(covers(now[0], one) for one in met))
                    met.update(now)
                    seen["write"] += 1
        self.assertGreater(min(seen.values()), 50)


class Refused(unittest.TestCase):
    def setUp(self):
        self.trip, self.host, self.behind = Trip(), Host(0, ()), Host(1, ())
        self.trip.write(self.host, "a", 1)
        self.states = self.now()

    def now(self):
        return self.host.state(), self.behind.state(), [self.trip.known(key) for key in "abc"]

    def refused(self, error, deed, *arguments):
        self.assertRaises(error, deed, *arguments)
        self.assertEqual(self.now(), self.states)

    def test_keys(self):
        for key in BAD_KEYS:
            self.refused(BadKey, self.trip.known, key)
            for host in (self.host, self.behind):
                self.refused(BadKey, self.trip.is_behind, host, key)
                self.refused(BadKey, self.trip.read, host, key)
                for value in (1, ()):
                    self.refused(BadKey, self.trip.write, host, key, value)

    def test_hosts(self):
        for host in NO_HOSTS:
            for key in ("a", ""):
                self.refused(BadHost, self.trip.is_behind, host, key)
                self.refused(BadHost, self.trip.read, host, key)
                self.refused(BadHost, self.trip.write, host, key, ())
        for other in ODD + (Trip, self.host, "trip"):
            self.refused(BadHost, self.trip.hand_on, other)

    def test_values(self):
        for value in BAD_VALUES:
            for host in (self.host, self.behind):
                self.refused(BadValue, self.trip.write, host, "a", value)

    def test_behind_and_then_serials(self):
        self.refused(Behind, self.trip.read, self.behind, "a")
        self.refused(Behind, self.trip.write, self.behind, "a", 1)
        last = risen((1, (), 1, LAST, 1, ()))
        state = last.state()
        self.refused(Behind, self.trip.write, last, "a", 1)
        self.refused(BadSerial, self.trip.write, last, "b", 1)
        self.refused(BadValue, self.trip.write, last, "b", ())
        self.assertEqual(last.state(), state)
        self.assertEqual(self.trip.read(last, "b"), ())
        made_up = Host(3, (4,))
        give(made_up, 4, ("notes", (note("b", 4, 6, {3: 9}),)))
        self.refused(BadSerial, self.trip.write, made_up, "b", 1)


if __name__ == "__main__":
    unittest.main()
