import unittest

from meetstores.errors import BadCount, BadHost, BadKey, BadLinks, BadSerial, BadValue, NoFrame, NoLink, TooMany
from meetstores.hosts import Host
from meetstores.messages import message_in
from meetstores.notes import covers, differ, merged, written
from meetstores.pieces import Gatherer
from meetstores.worlds import World
from samples import ODD, chance

NO_NUMBERS = tuple(value for value in ODD if type(value) is not int)


def row(hosts):
    return tuple((k, k + 1) for k in range(hosts - 1))


def star(hosts):
    return tuple((0, k) for k in range(1, hosts))


def ring(hosts):
    return tuple(sorted(set(row(hosts)) | {(0, hosts - 1)}))


def states_of(world, hosts):
    return [world.state(number) for number in range(hosts)]


class Watched:
    """A world with all that was ever written in it."""

    def __init__(self, hosts, links, seed):
        self.world, self.hosts, self.links, self.source = World(hosts, links), hosts, links, chance(seed)
        self.written, self.frames, self.cut = [], [], set()

    def write(self, number):
        key = self.source.choice("abcde") + str(self.source.randrange(4))
        self.world.write(number, key, self.source.choice((None, 7, "x" * self.source.randrange(150))))
        self.written.append(next(one for one in self.world.store(number) if one[:2] == (key, number)))

    def do_something(self):
        """One step at random, of those that harm most."""
        world, source = self.world, self.source
        flight = world.flight()
        place = source.randrange(len(flight)) if flight else None
        deed = source.choice("wwttttfchdlspdddddddd")
        if deed == "w":
            self.write(source.randrange(self.hosts))
        elif deed == "t":
            world.tick(source.randrange(self.hosts))
        elif deed == "f" and source.random() < 0.3:
            world.fall(source.randrange(self.hosts))
        elif deed == "c" and source.random() < 0.3 and self.links:
            link = source.choice(self.links)
            world.cut(*link)
            self.cut.add(link)
        elif deed == "h" and self.cut:
            link = sorted(self.cut)[0]
            world.heal(*link[::-1])
            self.cut.discard(link)
        elif flight and deed == "l":
            world.lose(place)
        elif flight and deed == "p":
            world.double(place)
        elif flight and deed == "s":
            try:
                world.spoil(place, source.randrange(len(flight[place][2])), source.randrange(256))
            except TooMany:
                pass
        elif flight and deed == "d":
            self.frames.append(flight[place])
            world.deliver(place if source.random() < 0.4 else 0)

    def check(self, test):
        """What point 19 tells of the notes of any world."""
        notes = dict.fromkeys(self.written)
        stores = [self.world.store(number) for number in range(self.hosts)]
        for store in stores:
            for one in store:
                test.assertIn(one, notes)
                test.assertFalse(any(covers(one, other) for other in store if other[0] == one[0]))
        for lost in self.written:
            found = [one for one in stores[lost[1]] if one[0] == lost[0]]
            for one in found:
                found += [other for other in self.written
                          if other[0] == one[0] and covers(one, other) and other not in found]
            test.assertIn(lost, found)


class Made(unittest.TestCase):
    def test_worlds(self):
        for hosts in range(2, 9):
            for links in ((), row(hosts), star(hosts), ring(hosts)):
                world = World(hosts, links)
                for number in range(hosts):
                    peers = tuple(sorted({one + two - number for one, two in links if number in (one, two)}))
                    self.assertEqual(world.state(number), (number, peers, 1, 0, 0, ()))
                    self.assertIsInstance(world.host(number), Host)
                self.assertEqual(world.flight(), ())
                self.assertTrue(world.are_alike())

    def test_refused_worlds(self):
        for hosts in ODD + (2.0, 9, -2):
            if type(hosts) is not int or not 2 <= hosts <= 8:
                for links in ((), None, ((1, 0),)):
                    self.assertRaises(BadCount, World, hosts, links)
        for links in ODD + (((0, 3),), ((1, 0),), ((1, 1),), ((0, 2), (0, 1)), ((0, 1), (0, 1)), [(0, 1)], ((0, 1, 2),),
                            ((False, 1),), ((0, "1"),), ((None, 1),), ((0, 1), 5), ((-1, 0),), ((0, 1), [0, 2])):
            if links != () and (links != ((0, 1),) or type(links[0]) is not tuple):
                self.assertRaises(BadLinks, World, 3, links)

    def test_what_hosts_do(self):
        world = World(3, row(3))
        host = world.host(1)
        self.assertIs(world.host(1), host)
        self.assertIsNone(world.write(1, "a", "fig"))
        self.assertEqual(world.read(1, "a"), ("fig",))
        self.assertEqual(world.read(0, "a"), ())
        self.assertEqual(world.store(1), written((), 1, 1, "a", "fig"))
        self.assertEqual(world.state(1), host.state())
        self.assertIsNone(world.fall(1))
        self.assertEqual(world.state(1)[2], 2)
        host.write("b", 1)
        self.assertEqual(world.read(1, "b"), (1,))
        self.assertFalse(world.are_alike())

    def test_ticks_and_flight(self):
        world, twins = World(3, row(3)), [Host(0, (1,)), Host(1, (0, 2)), Host(2, (1,))]
        expected = []
        for number in (1, 0, 2, 1, 1):
            self.assertIsNone(world.tick(number))
            expected += [(number, peer, block) for peer, block in twins[number].tick()]
            self.assertEqual(world.flight(), tuple(expected))
        self.assertEqual([frame[:2] for frame in world.flight()],
                         [(1, 0), (1, 2), (0, 1), (2, 1), (1, 0), (1, 2), (1, 0), (1, 2)])

    def test_alike(self):
        world = World(3, ())
        self.assertIs(world.are_alike(), True)
        world.write(2, "a", 1)
        self.assertIs(world.are_alike(), False)
        for number in (0, 1):
            world.write(number, "a", 1)
        self.assertIs(world.are_alike(), False)

    def test_refused_hosts(self):
        world = World(3, row(3))
        world.write(0, "a", 1)
        world.tick(0)
        states, flight = states_of(world, 3), world.flight()
        for number in NO_NUMBERS + (-1, 3, 8, 10 ** 5000):
            for deed in (world.host, world.store, world.state, world.fall, world.tick):
                self.assertRaises(BadHost, deed, number)
            self.assertRaises(BadHost, world.write, number, "", [])
            self.assertRaises(BadHost, world.read, number, "")
            for deed in (world.cut, world.heal):
                for other in (0, 1, 2, 3, None):
                    self.assertRaises(BadHost, deed, number, other)
                    self.assertRaises(BadHost, deed, other, number)
        for key in ("", None, 5, "a" * 41, "'", ["a"], True):
            self.assertRaises(BadKey, world.write, 0, key, [])
            self.assertRaises(BadKey, world.read, 0, key)
        for value in (True, [], (), 2 ** 40 + 1, "'", "a" * 201):
            self.assertRaises(BadValue, world.write, 0, "a", value)
        for deed in (world.cut, world.heal):
            for one, two in ((0, 2), (2, 0), (1, 1), (0, 0)):
                self.assertRaises(NoLink, deed, one, two)
        self.assertEqual((states_of(world, 3), world.flight()), (states, flight))

    def test_the_last_serial(self):
        world = World(2, row(2))
        world.host(0).rise(1, 2 ** 27 - 1, 0, ())
        self.assertRaises(BadSerial, world.write, 0, "a", 1)
        self.assertRaises(BadKey, world.write, 0, "", 1)
        self.assertEqual(world.state(0), (0, (1,), 1, 2 ** 27 - 1, 0, ()))


class Links(unittest.TestCase):
    def test_a_cut_link_loses_frames(self):
        for ends in ((0, 1), (1, 0)):
            world = World(3, row(3))
            for number in (0, 1, 2):
                world.tick(number)
            kept = tuple(frame for frame in world.flight() if 2 in frame[:2])
            self.assertEqual(len(world.flight()), 4)
            self.assertIsNone(world.cut(*ends))
            self.assertEqual(world.flight(), kept)
            for number in (0, 1, 2):
                world.tick(number)
            self.assertEqual([frame[:2] for frame in world.flight()], [(1, 2), (2, 1), (1, 2), (2, 1)])
            world.cut(*ends)
            self.assertIsNone(world.heal(*ends[::-1]))
            self.assertEqual(len(world.flight()), 4)
            world.tick(0)
            self.assertEqual(world.flight()[-1][:2], (0, 1))
            world.heal(*ends)
            self.assertEqual(len(world.flight()), 5)

    def test_what_is_sent_back_is_lost_too(self):
        world = World(2, row(2))
        world.write(0, "a", 1)
        world.tick(0)
        block = world.flight()[0][2]
        world.cut(0, 1)
        self.assertEqual(world.flight(), ())
        # The frame came when the link was whole; behind a cut nothing that is sent gets on the way.
        world.host(1).take(0, block)
        world.tick(1)
        self.assertEqual(world.flight(), ())
        world.heal(0, 1)
        world.tick(0)
        world.deliver(0)
        self.assertEqual([frame[:2] for frame in world.flight()], [(1, 0)])

    def test_hosts_behind_a_cut_link_stay_unlike(self):
        world = World(4, row(4))
        world.write(0, "a", 1)
        world.write(3, "b", 2)
        world.cut(1, 2)
        self.assertIsNone(world.settle(30))
        self.assertEqual([world.read(number, "a") for number in range(4)], [(1,), (1,), (), ()])
        self.assertEqual([world.read(number, "b") for number in range(4)], [(), (), (2,), (2,)])
        world.heal(2, 1)
        self.assertLess(world.settle(60), 60)


class Frames(unittest.TestCase):
    def world(self):
        world = World(2, row(2))
        world.write(0, "a", "x" * 50)
        world.write(1, "b", "y" * 50)
        for number in (0, 1, 0):
            world.tick(number)
        return world

    def test_lose(self):
        for place in range(3):
            world = self.world()
            flight = world.flight()
            self.assertIsNone(world.lose(place))
            self.assertEqual(world.flight(), flight[:place] + flight[place + 1:])

    def test_double(self):
        world = self.world()
        flight = world.flight()
        self.assertIsNone(world.double(1))
        self.assertEqual(world.flight(), flight + flight[1:2])
        world.spoil(0, 3, flight[0][2][3] ^ 5)
        spoiled = world.flight()[0]
        self.assertNotEqual(spoiled, flight[0])
        world.double(0)
        self.assertEqual(world.flight(), (spoiled,) + flight[1:] + (flight[1], spoiled))
        # The two are two: what is spoiled at the one is not at the other.
        world.spoil(4, 0, flight[0][2][0] ^ 1)
        self.assertEqual(world.flight()[0], spoiled)

    def test_spoil(self):
        world = self.world()
        flight = world.flight()
        sent = flight[2][2]
        self.assertIsNone(world.spoil(2, 0, sent[0] ^ 255))
        now = (sent[0] ^ 255,) + sent[1:]
        self.assertEqual(world.flight(), flight[:2] + ((0, 1, now),))
        world.spoil(2, 0, sent[0])
        self.assertEqual(world.flight(), flight)
        last = len(sent) - 1
        for octet in (0, 255):
            world.spoil(2, last, octet)
            self.assertEqual(world.flight()[2][2], sent[:-1] + (octet,))

    def test_at_most_six_octets(self):
        world = self.world()
        sent = world.flight()[0][2]
        for at in range(6):
            world.spoil(0, 2 * at, sent[2 * at] ^ 1)
        # The same octets once more, and octets as they are, make no more of them.
        world.spoil(0, 2, sent[2] ^ 9)
        world.spoil(0, 1, sent[1])
        flight = world.flight()
        with self.assertRaises(TooMany) as caught:
            world.spoil(0, 1, sent[1] ^ 1)
        self.assertEqual(caught.exception.most, 6)
        self.assertEqual(world.flight(), flight)
        # A double has as many that are other than they were sent.
        world.double(0)
        self.assertRaises(TooMany, world.spoil, 3, 1, sent[1] ^ 1)
        world.spoil(3, 0, sent[0])
        world.spoil(3, 1, sent[1] ^ 1)
        self.assertRaises(TooMany, world.spoil, 3, 0, sent[0] ^ 1)

    def test_deliver(self):
        world, one, two = World(2, row(2)), Host(0, (1,)), Host(1, (0,))
        for number, host in enumerate((one, two)):
            world.write(number, f"k{number}", 1)
            host.write(f"k{number}", 1)
        frames = []
        for _ in range(2):
            world.tick(0)
            frames += one.tick()
        self.assertIsNone(world.deliver(1))
        self.assertEqual(two.take(0, frames[1][1]), ())
        self.assertEqual(world.flight(), ((0, 1, frames[0][1]),))
        back = two.take(0, frames[0][1])
        world.deliver(0)
        self.assertEqual(world.flight(), tuple((1, 0, block) for _, block in back))
        self.assertGreater(len(back), 1)
        world.tick(0)
        self.assertIsNone(world.deliver_all())
        self.assertEqual(world.flight(), ())
        self.assertEqual(world.store(0), world.store(1))

    def test_the_eldest_frame_comes_first(self):
        world, order = World(2, row(2)), []
        for number in (0, 1):
            take = world.host(number).take
            world.host(number).take = lambda peer, block, number=number, take=take: order.append(number) or take(peer, block)
        for number in (1, 1, 0, 1):
            world.tick(number)
        world.deliver_all()
        self.assertEqual(order, [0, 0, 1, 0])

    def test_refused(self):
        world = self.world()
        states, flight = states_of(world, 2), world.flight()
        many = len(flight[0][2])
        for place in NO_NUMBERS + (-1, 3, 99, 10 ** 5000):
            for deed in (world.lose, world.double, world.deliver):
                self.assertRaises(NoFrame, deed, place)
            for at, octet in ((0, 0), (None, None), (-1, 256)):
                self.assertRaises(NoFrame, world.spoil, place, at, octet)
        for at in NO_NUMBERS + (-1, many, 10 ** 5000):
            for octet in (0, 256, None):
                self.assertRaises(BadCount, world.spoil, 0, at, octet)
        for octet in NO_NUMBERS + (-1, 256, 10 ** 5000):
            self.assertRaises(BadCount, world.spoil, 0, 0, octet)
        for rounds in NO_NUMBERS + (-1, 1001, 10 ** 5000):
            self.assertRaises(BadCount, world.settle, rounds)
        for place in (0, False, None):
            self.assertRaises(NoFrame, World(2, row(2)).deliver, place)
        self.assertEqual((states_of(world, 2), world.flight()), (states, flight))


class Settling(unittest.TestCase):
    def test_rounds(self):
        world, twin = World(3, row(3)), World(3, row(3))
        for one in (world, twin):
            for number in range(3):
                one.write(number, f"k{number}", number)
        self.assertIsNone(world.settle(0))
        rounds = 0
        while not twin.are_alike():
            for number in range(3):
                twin.tick(number)
            twin.deliver_all()
            rounds += 1
        self.assertIsNone(world.settle(1))
        self.assertEqual(world.settle(1000), rounds - 1)
        self.assertEqual(states_of(world, 3), states_of(twin, 3))
        self.assertEqual(world.settle(0), 0)
        self.assertEqual(world.settle(1000), 0)
        self.assertEqual(states_of(world, 3), states_of(twin, 3))

    def test_just_as_many_rounds_as_told(self):
        world = World(2, row(2))
        for number in range(2):
            world.write(number, "a", number)
        self.assertEqual(world.settle(2), 2)
        world = World(2, row(2))
        for number in range(2):
            world.write(number, "a", number)
        self.assertIsNone(world.settle(1))

    def test_hosts_without_links(self):
        world = World(8, ())
        world.write(0, "a", 1)
        self.assertIsNone(world.settle(1000))

    def test_rows_stars_and_rings(self):
        for hosts in range(2, 9):
            for links in (row(hosts), star(hosts), ring(hosts)):
                world = World(hosts, links)
                stores = []
                for number in range(hosts):
                    for k in range(4):
                        world.write(number, "abcd"[k] if k % 2 else f"k{number}{k}", number)
                    stores.append(world.store(number))
                self.assertLess(world.settle(300), 300)
                together = ()
                for store in stores:
                    together = merged(together, store)
                self.assertEqual(world.store(hosts - 1), together)
                self.assertEqual(world.read(0, "b"), tuple(range(hosts)))


class Chaos(unittest.TestCase):
    def test_no_write_is_lost_or_made_up(self):
        for seed, (hosts, links) in enumerate(((2, row(2)), (3, row(3)), (4, star(4)), (5, ring(5)), (8, ring(8)))):
            with self.subTest(hosts=hosts):
                watched = Watched(hosts, links, 70 + seed)
                for at in range(1200):
                    watched.do_something()
                    if at % 100 == 0:
                        watched.check(self)
                watched.check(self)
                self.come_alike(watched)

    def come_alike(self, watched):
        """Behind healed links all come alike, to the join of all stores; and what comes again changes nothing."""
        world, hosts = watched.world, watched.hosts
        for link in watched.links:
            world.heal(*link)
        world.deliver_all()
        together = ()
        for number in range(hosts):
            together = merged(together, world.store(number))
        self.assertIsNotNone(world.settle(600))
        self.assertEqual(world.store(0), together)
        watched.check(self)
        left = [one for one in watched.written if not any(covers(other, one) for other in watched.written)]
        self.assertEqual(world.store(0), tuple(sorted(left, key=lambda one: one[:2])))
        for sender, taker, block in watched.frames[::-1] + watched.frames[:300]:
            world.host(taker).take(sender, block)
        self.assertEqual([world.store(number) for number in range(hosts)], [together] * hosts)


class AnyNumbers(unittest.TestCase):
    def numbers(self, world, number, many):
        """The places of the frames that a host sends to the others, each with the word of its message."""
        words = []
        for _ in range(many):
            before = len(world.flight())
            world.tick(number)
            gatherer = Gatherer()
            for place, (_, _, block) in enumerate(world.flight()[before:], before):
                whole = gatherer.take(block)
                words.append((place, message_in(whole[1])[0] if whole else None))
        return words

    def check(self, world, one, two, source):
        """Of many numbers of two only as many as names differ come to one, and then what is asked and answered."""
        different = len(differ(world.store(one), world.store(two)))
        together = merged(world.store(one), world.store(two))
        words = self.numbers(world, two, 60)
        places = [place for place, word in words if word == "number" and world.flight()[place][1] == one]
        chosen = source.sample(places, different)
        blocks = [world.flight()[place] for place in chosen]
        while world.flight():
            world.lose(0)
        for sender, taker, block in blocks[:-1]:
            self.assertEqual(world.host(taker).take(sender, block), ())
        for sender, taker, block in blocks[-1:]:
            back = world.host(taker).take(sender, block)
            for _, answer in back:
                for _, notes in world.host(two).take(one, answer):
                    self.assertEqual(world.host(one).take(two, notes), ())
        self.assertEqual(world.store(one), together)
        self.assertEqual(world.store(two), together)

    def test_two_hosts(self):
        source = chance(80)
        for ones, twos in ((0, 1), (1, 0), (1, 1), (2, 5), (12, 12), (24, 0), (0, 24)):
            for same in (0, 40):
                world = World(2, row(2))
                for k in range(same):
                    world.write(k % 2, f"s{k}", k)
                self.assertIsNotNone(world.settle(100))
                # A fall makes the talks tell from the beginning.
                for number, many in enumerate((ones, twos)):
                    for k in range(many):
                        world.write(number, f"new{number}{k}", "v" * k)
                    world.fall(number)
                self.check(world, 0, 1, source)

    def test_overwritten_names_differ_too(self):
        source = chance(81)
        world = World(2, row(2))
        for k in range(20):
            world.write(0, f"s{k}", k)
        world.settle(100)
        for k in range(5):
            world.write(0, f"s{k}", "new")
            world.write(1, f"s{k + 3}", "newer")
        for number in (0, 1):
            world.fall(number)
        self.assertEqual(len(differ(world.store(0), world.store(1))), 16)
        self.check(world, 0, 1, source)
        self.assertEqual(world.read(0, "s3"), ("new", "newer"))

    def test_two_hosts_of_a_greater_world(self):
        source = chance(82)
        world = World(4, ring(4))
        for number in range(4):
            for k in range(number + 1):
                world.write(number, f"k{number}{k}", k)
        self.check(world, 0, 3, source)
        self.check(world, 2, 1, source)


if __name__ == "__main__":
    unittest.main()
