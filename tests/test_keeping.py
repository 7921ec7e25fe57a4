import unittest

from lines import blocks_of, give, give_all
from meetstores.errors import BadBlocks, BadKey, BadState, Unread
from meetstores.guard import guarded, mended
from meetstores.hosts import Host
from meetstores.keeping import keep, restore, risen
from meetstores.worlds import World
from samples import NO_PAST, ODD, chance, note, some_value, spoiled
from test_messages import counts, text, value

LAST = 2 ** 27 - 1
TOP = 2 ** 40 - 1
EMPTY = (0, (), 1, 0, 0, ())
FULL = (7, tuple(range(7)), 2 ** 20 - 1, LAST, TOP,
        (note("k" * 40, 0, LAST, (LAST - 1,) + (LAST,) * 7, "v" * 200), note("z", 7, LAST, (LAST,) * 7 + (5,), -2 ** 40)))


def octets_of(state):
    """A state's octets, word by word as point 22 tells them."""
    number, peers, life, serial, edition, store = state
    octets = counts(number, len(peers), *peers, life, serial, edition, len(store))
    for key, host, own, past, worth in store:
        octets += text(key) + [host] + counts(own, *past) + value(worth)
    return tuple(octets)


def blocks_for(octets):
    return tuple(guarded(octets[at:at + 90]) for at in range(0, len(octets), 90))


def some_states():
    """States of hosts that wrote, talked and fell."""
    source = chance(100)
    world = World(4, ((0, 1), (0, 2), (1, 2), (2, 3)))
    states = []
    for at in range(160):
        number = source.randrange(4)
        if at % 10 < 5:
            world.write(number, source.choice("abcdef") * source.randrange(1, 41), some_value(source))
        elif at % 10 == 9:
            world.fall(number)
        else:
            world.tick(number)
            world.deliver_all()
        if at % 5 == 0:
            states.append(world.state(number))
    return states


class Keeping(unittest.TestCase):
    def test_there_and_back(self):
        for state in some_states() + [EMPTY, FULL]:
            blocks = keep(state)
            self.assertEqual(blocks, blocks_for(octets_of(state)))
            self.assertEqual(restore(blocks), state)

    def test_lots_of_90_octets(self):
        self.assertEqual(keep(EMPTY), (guarded((0, 0, 1, 0, 0, 0)),))
        for many in range(60, 130):
            state = (3, (), 1, 5, 1, (note("a", 3, 5, value="v" * many),))
            octets = octets_of(state)
            blocks = keep(state)
            self.assertEqual([len(block) for block in blocks[:-1]], [98] * (len(blocks) - 1))
            self.assertEqual(len(blocks), (len(octets) + 89) // 90)
            self.assertEqual(sum((mended(block) for block in blocks), ()), octets)
            self.assertEqual(restore(blocks), state)

    def test_up_to_two_octets_of_each_block_changed(self):
        source = chance(101)
        for state in some_states()[::4] + [EMPTY, FULL]:
            for many in (1, 2):
                self.assertEqual(restore(tuple(spoiled(block, many, source) for block in keep(state))), state)

    def test_more_octets_changed(self):
        source = chance(102)
        for state in some_states()[::4] + [EMPTY, FULL]:
            blocks = keep(state)
            for at in range(len(blocks)):
                worse = spoiled(blocks[at], source.randrange(3, 7), source)
                self.assertRaises(Unread, restore, blocks[:at] + (worse,) + blocks[at + 1:])

    def test_blocks_that_are_not_those_of_a_state(self):
        one, other = [state for state in some_states() if len(keep(state)) > 3][-2:]
        blocks, others = keep(one), keep(other)
        wrong = [(), blocks[1:], blocks[:-1], blocks[::-1], blocks + blocks, blocks + blocks[-1:], blocks[:1] + blocks,
                 blocks[:1] + blocks[2:], (blocks[1], blocks[0]) + blocks[2:], blocks + others, blocks[:1] * 3,
                 keep(EMPTY) + keep(EMPTY), blocks[:2] + others[2:]]
        for value in wrong:
            self.assertRaises(Unread, restore, value)

    def test_octets_cut_otherwise(self):
        octets = octets_of(FULL)
        for size in (1, 30, 89, 91, 100):
            blocks = tuple(guarded(octets[at:at + size]) for at in range(0, len(octets), size))
            self.assertRaises(Unread, restore, blocks)
        self.assertEqual(restore(blocks_for(octets)), FULL)

    def test_octets_that_no_host_could_have_kept(self):
        bad = [
            (), (0,), (0, 0, 1, 0, 0), (0, 0, 1, 0, 0, 0, 0), (8, 0, 1, 0, 0, 0), (0, 1, 0, 1, 0, 0, 0),
            (0, 1, 8, 1, 0, 0, 0), (0, 2, 2, 1, 1, 0, 0, 0), (0, 2, 1, 1, 1, 0, 0, 0), (0, 0, 0, 0, 0, 0),
            (0, 0, 1, 0, 0, 1), (128, 0, 0, 1, 0, 0, 0), (0, 0, 129, 0, 0, 0, 0), (0, 200, 1, 1, 0, 0, 0),
            tuple(counts(0, 0, 2 ** 20, 0, 0, 0)), tuple(counts(0, 0, 1, 2 ** 27, 0, 0)),
            tuple(counts(0, 0, 1, 0, 2 ** 40, 0)), tuple(counts(0, 0, 1, 0, 0, 2 ** 63 - 1)),
            tuple(counts(0, 2 ** 63 - 1, 1, 0, 0, 0)), tuple(counts(0, 0, 1, 0, 0, 2 ** 64)),
            octets_of((0, (), 1, 1, 1, (note("a", 0, 2),))), octets_of((0, (), 1, 1, 1, (note("a", 1, 2, {0: 2}),))),
            octets_of((0, (), 1, 2, 1, (note("b", 0, 2), note("a", 0, 1)))),
            octets_of((0, (), 1, 2, 1, (note("a", 0, 2), note("a", 1, 1, {0: 2})))),
            octets_of((0, (), 1, 2, 1, (note("a" * 41, 0, 2),))), octets_of((0, (), 1, 2, 1, (note("a", 0, 0),))),
        ]
        for octets in bad:
            with self.subTest(octets=octets[:30]), self.assertRaises(Unread):
                restore(blocks_for(octets))
        for octets in ((0, 0, 1, 0, 0, 0), (0, 2, 1, 7, 1, 0, 0, 0), octets_of((0, (), 1, 2, 0, (note("a", 0, 2),)))):
            self.assertEqual(octets_of(restore(blocks_for(octets))), octets)

    def test_no_blocks(self):
        good = keep(EMPTY)[0]
        for blocks in ODD + ([good], good, (list(good),), (good, None), (good, good[:8]), (good + (1,) * 95,),
                             (good, ()), (good[:-1] + (256,),), (good[:-1] + (True,),), (good[:8],)):
            if blocks != ():
                self.assertRaises(BadBlocks, restore, blocks)
        self.assertRaises(Unread, restore, ((0,) * 9,))
        self.assertRaises(Unread, restore, ((0,) * 108,))

    def test_no_states(self):
        good = (2, (0, 1), 3, 9, 4, (note("a", 2, 9, {2: 3, 1: 4}),))
        self.assertEqual(restore(keep(good)), good)
        self.assertEqual(risen(good).state(), good[:2] + (4,) + good[3:])
        bad = [good[:5], good + (1,), list(good), EMPTY[:1], ()]
        for at, values in (
            (0, (8, -1, True, None, "2", 0, 1)), (1, ((1, 0), (0, 0), (2,), (8,), [0, 1], None, (True,), 5, (0, None))),
            (2, (0, -1, 2 ** 20, True, None, "3")), (3, (-1, 8, LAST + 1, True, None)),
            (4, (-1, TOP + 1, True, None, "4")),
            (5, (None, [], ("a",), (note("a", 2, 10),), (note("a", 1, 3, {2: 10}),), (note("a", 2, 0),),
                 (note("b", 2, 2), note("a", 2, 1)), (note("a", 2, 9), note("a", 3, 1, {2: 9})))),
        ):
            bad += [good[:at] + (value,) + good[at + 1:] for value in values]
        for state in list(ODD) + bad:
            self.assertRaises(BadState, keep, state)
            self.assertRaises(BadState, risen, state)
        last = good[:2] + (2 ** 20 - 1,) + good[3:]
        self.assertEqual(restore(keep(last)), last)
        self.assertRaises(BadState, risen, last)
        self.assertEqual(risen(good[:2] + (2 ** 20 - 2,) + good[3:]).state()[2], 2 ** 20 - 1)


class Risen(unittest.TestCase):
    def test_it_is_as_if_it_had_fallen(self):
        source = chance(103)
        world = World(2, ((0, 1),))
        for at in range(40):
            world.write(source.randrange(2), source.choice("abcdefgh"), at)
            if at % 3 == 0:
                world.tick(source.randrange(2))
                world.deliver_all()
        host = world.host(0)
        twin = risen(restore(keep(host.state())))
        host.fall()
        self.assertEqual(twin.state(), host.state())
        self.assertIsInstance(twin, Host)
        for at in range(70):
            self.assertEqual(twin.tick(), host.tick())
            if at % 9 == 0:
                message = source.choice((("all",), ("part", host.state()[4], (0, 0)), ("ask", host.state()[4], (1, 2)),
                                         ("notes", (note("new", 1, 900 + at),))))
                self.assertEqual(give(twin, 1, message, at), give(host, 1, message, at))
            if at % 20 == 0:
                twin.write("a", at)
                host.write("a", at)
            self.assertEqual(twin.state(), host.state())

    def test_it_talks_on_and_comes_alike(self):
        hosts = [Host(0, (1,)), Host(1, (0,))]
        for k in range(6):
            hosts[0].write(f"one{k}", k)
            hosts[1].write(f"two{k}", k)
        for at in range(30):
            if at in (3, 8, 14):
                hosts[at % 2] = risen(restore(keep(hosts[at % 2].state())))
            for host, other in (hosts, hosts[::-1]):
                back = give_all(other, host.state()[0], host.tick())
                give_all(other, host.state()[0], give_all(host, other.state()[0], back))
        self.assertEqual(hosts[0].store(), hosts[1].store())
        self.assertEqual(len(hosts[0].store()), 12)
        self.assertEqual([host.state()[2:4] for host in hosts], [(3, 6), (2, 6)])
        hosts[0].write("more", 1)
        self.assertEqual(hosts[0].state()[3], 7)

    def test_it_has_nothing_but_what_is_kept(self):
        host = Host(0, (1,))
        host.write("a", 1)
        part = blocks_of(("notes", tuple(note(f"k{k}", 1, k + 1) for k in range(9))))
        for block in part[1:]:
            host.take(1, block)
        twin = risen(host.state())
        self.assertEqual(twin.take(1, part[0]), ())
        self.assertEqual(len(twin.store()), 1)
        self.assertRaises(BadKey, twin.write, "", 1)


if __name__ == "__main__":
    unittest.main()
