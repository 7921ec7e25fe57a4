import unittest
from collections import Counter

from fuzz import lead
from lines import blocks_of, give, give_all, messages_in, told
from meetstores.errors import BadHost, BadHosts, BadKey, BadSerial, BadValue
from meetstores.hosts import Host
from meetstores.keeping import risen
from meetstores.lots import lot_names
from meetstores.messages import write_message
from meetstores.notes import merged, name_of, written
from meetstores.pieces import cut, piece_of
from samples import NO_PAST, ODD, PRIME, chance, note, number_told, spoiled, tells_of

LAST = 2 ** 27 - 1
WHOLE = (0, 0)


def host_with(number, peers, notes):
    """A host to which notes have come from its first peer."""
    host = Host(number, peers)
    for at in range(0, len(notes), 10):
        give(host, peers[0], ("notes", tuple(notes[at:at + 10])))
    return host


def number_of(edition, lot, names, index):
    """The message of a number of a store that has some names of a lot."""
    return ("number", edition, lot, len(names), index, number_told(names, index))


def some_notes(many, host=7, serials=1):
    return tuple(note(f"k{k:04}", host, serials + k, value=k) for k in range(many))


class Alone(unittest.TestCase):
    def test_a_new_host(self):
        for number in range(8):
            for peers in ((), tuple(k for k in range(8) if k != number)):
                host = Host(number, peers)
                self.assertEqual(host.state(), (number, peers, 1, 0, 0, ()))
                self.assertEqual(host.store(), ())
                self.assertEqual(host.read("a"), ())

    def test_refused_hosts(self):
        for number in ODD:
            if number not in (0, 1, 7) or isinstance(number, bool):
                with self.assertRaises(BadHost):
                    Host(number, None)
        for peers in ODD + ((1, 0), (1, 1), (0, 1, 2), (2,), (0, 1, 3, 8), (0, True), [0], (0, None), ("0",), {0: 1}):
            if peers not in ((), (0,), (1,)) or any(isinstance(peer, bool) for peer in peers):
                with self.assertRaises(BadHosts):
                    Host(2, peers)

    def test_writes_and_reads(self):
        host = Host(3, (1,))
        store = ()
        writes = (("b", 1), ("a", None), ("b", "x" * 200), ("b", "x" * 200), ("k" * 40, -2 ** 40), ("?", ""))
        for serial, (key, value) in enumerate(writes, 1):
            self.assertIsNone(host.write(key, value))
            store = written(store, 3, serial, key, value)
            self.assertEqual(host.state(), (3, (1,), 1, serial, serial, store))
            self.assertEqual(host.store(), store)
            self.assertEqual(host.read(key), (value,))
        self.assertEqual(host.read("c"), ())

    def test_reads_of_several_values(self):
        host = host_with(2, (0,), (note("a", 1, 4, value="one"), note("a", 5, 2, value="five")))
        self.assertEqual(host.read("a"), ("one", "five"))
        host.write("a", 9)
        self.assertEqual(host.read("a"), (9,))
        self.assertEqual(host.store(), (note("a", 2, 1, {1: 4, 5: 2}, 9),))

    def test_refused_writes_and_reads_change_nothing(self):
        host, twin = Host(0, (1,)), Host(0, (1,))
        for one in (host, twin):
            one.write("a", 1)
        for key in ODD:
            if type(key) is not str or not 1 <= len(key) <= 40 or set(key) - set("a"):
                self.assertRaises(BadKey, host.read, key)
                self.assertRaises(BadKey, host.write, key, [])
        for value in ODD:
            is_number = type(value) is int and abs(value) <= 2 ** 40
            if value is not None and not is_number and not (type(value) is str and not set(value) - set("a")
                                                            and len(value) <= 200):
                self.assertRaises(BadValue, host.write, "a", value)
        self.assertEqual(host.state(), twin.state())
        self.assertEqual(host.tick(), twin.tick())

    def test_the_last_serial(self):
        host = risen((0, (1,), 1, LAST - 1, 5, ()))
        host.write("a", 1)
        self.assertEqual(host.state(), (0, (1,), 2, LAST, 6, (note("a", 0, LAST, value=1),)))
        host.tick()
        for key, value, error in (("a", 2, BadSerial), ("", [], BadKey), ("a", [], BadValue)):
            self.assertRaises(error, host.write, key, value)
        self.assertEqual(host.state(), (0, (1,), 2, LAST, 6, (note("a", 0, LAST, value=1),)))
        self.assertEqual(messages_in(host.tick()), [number_of(6, WHOLE, [LAST], 1)])

    def test_a_fall(self):
        host = Host(0, (1, 2))
        host.write("a", 1)
        for _ in range(3):
            host.tick()
        state = host.state()
        self.assertIsNone(host.fall())
        self.assertEqual(host.state(), state[:2] + (2,) + state[3:])
        self.assertEqual(told(host.tick()), [
            (1, 2 * 2 ** 20, number_of(1, WHOLE, [1], 0)), (2, 2 * 2 ** 20 + 1, number_of(1, WHOLE, [1], 0))])

    def test_a_host_without_peers(self):
        host = Host(0, ())
        host.write("a", 1)
        self.assertEqual(host.tick(), ())
        for peer in ODD + tuple(range(9)):
            self.assertRaises(BadHost, host.take, peer, ())


class OwnSerials(unittest.TestCase):
    """Only what the store has of a host stands against its next serial, not what has ever come."""

    def test_a_greater_serial_in_the_store(self):
        for came in (note("k", 0, 3, value="x"), note("k", 1, 9, {0: 3})):
            host = host_with(0, (1,), (came,))
            state = host.state()
            for key, value, error in (("z", 1, BadSerial), ("k", 1, BadSerial), ("", 1, BadKey), ("z", (), BadValue)):
                self.assertRaises(error, host.write, key, value)
            self.assertEqual(host.state(), state)

    def test_as_great_a_serial_and_one_less(self):
        for own in range(5):
            for came in range(1, 5):
                for notes in ((note("k", 0, came),), (note("k", 1, 9, {0: came}),)):
                    host = risen((0, (1,), 1, own, 0, ()))
                    give(host, 1, ("notes", notes))
                    if came > own:
                        self.assertRaises(BadSerial, host.write, "z", 1)
                    else:
                        host.write("z", 1)
                        self.assertEqual(host.state()[3], own + 1)

    def test_a_note_that_was_not_taken_in(self):
        newer = note("k", 1, 6, {1: 5}, 1)
        host = host_with(0, (1,), (newer,))
        give(host, 1, ("notes", (note("k", 1, 5, {0: 100}, 2),)), 7)
        self.assertEqual(host.state(), (0, (1,), 1, 0, 1, (newer,)))
        host.write("z", 1)
        self.assertEqual(host.state(), (0, (1,), 1, 1, 2, (newer, note("z", 0, 1, value=1))))

    def test_a_note_that_is_no_more_in_the_store(self):
        host = host_with(0, (1,), (note("k", 1, 5, {0: 100}, 2), note("m", 0, 50)))
        self.assertRaises(BadSerial, host.write, "z", 1)
        give(host, 1, ("notes", (note("k", 1, 6, {1: 5}, 1),)), 7)
        self.assertRaises(BadSerial, host.write, "z", 1)
        give(host, 1, ("notes", (note("m", 2, 1, {0: 50}),)), 8)
        self.assertRaises(BadSerial, host.write, "z", 1)
        give(host, 1, ("notes", (note("m", 2, 2),)), 9)
        host.write("z", 1)
        self.assertEqual(host.state()[3], 1)
        # What comes again stands against it again.
        give(host, 1, ("notes", (note("m", 0, 50),)), 10)
        self.assertRaises(BadSerial, host.write, "z", 1)

    def test_made_up_notes_of_all_kinds(self):
        source, answers = chance(63), Counter()
        for seed in range(60):
            host = Host(0, (1,))
            for serial in range(40):
                if source.random() < 0.5:
                    number, own = source.randrange(3), source.randrange(1, 9)
                    past = {number: source.randrange(own), 1 - min(number, 1): source.choice((0, 0, 4, 8))}
                    give(host, 1, ("notes", (note(source.choice("abc"), number, own, past),)), serial)
                    continue
                before, key = host.state(), source.choice("abc")
                try:
                    expected = written(before[5], 0, before[3] + 1, key, serial)
                except BadSerial:
                    self.assertRaises(BadSerial, host.write, key, serial)
                    self.assertEqual(host.state(), before)
                    answers["refused"] += 1
                else:
                    host.write(key, serial)
                    self.assertEqual(host.state(), before[:3] + (before[3] + 1, before[4] + 1, expected))
                    answers["written"] += 1
        self.assertGreater(min(answers["refused"], answers["written"]), 100)


class Ticks(unittest.TestCase):
    def test_numbers(self):
        source = chance(60)
        host = Host(0, (1, 4))
        for k in range(50):
            host.write(f"k{source.randrange(20)}", k)
            names = [name_of(one) for one in host.store()]
            frames = host.tick()
            self.assertEqual([peer for peer, _ in frames], [1, 4])
            self.assertEqual(told(frames), [
                (peer, 2 ** 20 + 2 * k + at, number_of(k + 1, WHOLE, names, k)) for at, peer in enumerate((1, 4))])

    def test_frames_are_the_pieces_of_messages(self):
        host = host_with(0, (3,), some_notes(30))
        for at in range(64):
            frames = host.tick()
            if at < 63:
                self.assertEqual(frames, tuple((3, block) for block in cut(
                    2 ** 20 + at, write_message(number_of(3, WHOLE, lot_names(host.store(), WHOLE), at)))))
        messages = [number_of(3, WHOLE, lot_names(host.store(), WHOLE), 63), ("notes", host.store())]
        expected = [(3, block) for k, message in enumerate(messages)
                    for block in cut(2 ** 20 + 63 + k, write_message(message))]
        self.assertEqual(frames, tuple(expected))

    def test_all_notes_at_each_64th_index(self):
        host = host_with(0, (3,), some_notes(95))
        for at in range(200):
            messages = messages_in(host.tick())
            self.assertEqual([message[0] for message in messages],
                             ["number"] + (["notes"] * 3 if at % 64 == 63 else []))
            if at % 64 == 63:
                self.assertEqual([len(message[1]) for message in messages[1:]], [40, 40, 15])
                self.assertEqual(sum((message[1] for message in messages[1:]), ()), host.store())
        self.assertEqual(messages_in(Host(0, (1,)).tick()), [("number", 0, WHOLE, 0, 0, 1)])

    def test_no_notes_of_an_empty_store(self):
        host = Host(0, (1,))
        for at in range(130):
            self.assertEqual(messages_in(host.tick()), [("number", 0, WHOLE, 0, at, 1)])

    def test_an_even_peer_is_told_less_and_less(self):
        host, twin = host_with(0, (1,), some_notes(3)), Host(1, (0,))
        give_all(twin, 0, host.tick())
        names = lot_names(host.store(), WHOLE)
        give(host, 1, number_of(9, WHOLE, names, 77))
        sent = [at for at in range(1, 100) if host.tick()]
        # The wait at hand goes on; the gaps behind it are 2, 4, 8 and then 16.
        self.assertEqual(sent, [1, 3, 7, 15, 31, 47, 63, 79, 95])
        give(host, 1, number_of(9, WHOLE, names, 78))
        self.assertEqual([at for at in range(100, 140) if host.tick()], [111, 127])
        host.write("z", 1)
        self.assertEqual([at for at in range(140, 150) if host.tick()], list(range(140, 150)))

    def test_a_peer_that_is_even_from_the_beginning(self):
        for falls in (0, 1):
            host = Host(0, (1,))
            for _ in range(falls):
                for _ in range(5):
                    host.tick()
                host.fall()
            give(host, 1, ("number", 0, WHOLE, 0, 5, 1))
            self.assertEqual([at for at in range(1, 40) if host.tick()], [1, 3, 7, 15, 31])

    def test_what_is_not_even_hurries_the_talk(self):
        host = host_with(0, (1, 2), some_notes(3))
        names = list(lot_names(host.store(), WHOLE))
        for peer in (1, 2):
            give(host, peer, number_of(9, WHOLE, names, 77))
        for _ in range(16):
            host.tick()
        self.assertEqual(host.tick(), ())
        give(host, 1, number_of(10, WHOLE, names + [5], 77))
        self.assertEqual([peer for peer, _ in host.tick()], [1])
        self.assertEqual([peer for peer, _ in host.tick()], [1])

    def test_the_index_goes_round(self):
        host = Host(0, (1,))
        host.write("a", 1)
        host._talks[1].index = 2 ** 20 - 2
        self.assertEqual(messages_in(host.tick()), [number_of(1, WHOLE, [1], 2 ** 20 - 2)])
        self.assertEqual(messages_in(host.tick()), [number_of(1, WHOLE, [1], 2 ** 20 - 1), ("notes", host.store())])
        self.assertEqual(messages_in(host.tick()), [number_of(1, WHOLE, [1], 0)])

    def test_a_life_has_so_many_messages(self):
        host = Host(0, (1, 2))
        host.write("a", 1)
        host._sent = 2 ** 20 - 1
        one, two = told(host.tick())
        self.assertEqual((one[1], two[1]), (2 ** 21 - 1, 2 ** 21))
        self.assertEqual(host.state()[2], 2)
        self.assertEqual([serial for _, serial, _ in told(host.tick())], [2 ** 21 + 1, 2 ** 21 + 2])
        # No fall: the talks go on.
        self.assertEqual(messages_in(host.tick())[0][4], 2)


class Packing(unittest.TestCase):
    def sizes(self, notes):
        host = host_with(0, (3,), notes)
        messages = give(host, 3, ("all",))
        self.assertEqual(sum((message[1] for message in messages), ()), tuple(notes))
        return [len(message[1]) for message in messages]

    def test_at_most_40_notes(self):
        self.assertEqual(self.sizes(()), [])
        self.assertEqual(self.sizes(some_notes(1)), [1])
        self.assertEqual(self.sizes(some_notes(40)), [40])
        self.assertEqual(self.sizes(some_notes(41)), [40, 1])
        self.assertEqual(self.sizes(some_notes(81)), [40, 40, 1])

    def test_at_most_3990_octets_of_notes(self):
        # Each of these notes has 199 octets, but the last one.
        notes = [note(f"k{k:02}", 1, k + 1, value="v" * 182) for k in range(20)]
        self.assertEqual({len(write_message(("notes", (one,)))) - 2 for one in notes}, {199})
        self.assertEqual(self.sizes(notes), [20])
        ten_more = note("z", 1, 99, value=None)
        self.assertEqual(len(write_message(("notes", (ten_more,)))) - 2, 13)
        self.assertEqual(self.sizes(notes + [ten_more]), [20, 1])
        short = notes[0][:4] + ("v" * 179,)
        self.assertEqual(self.sizes([short] + notes[1:] + [ten_more]), [21])
        short = notes[0][:4] + ("v" * 180,)
        self.assertEqual(self.sizes([short] + notes[1:] + [ten_more]), [20, 1])


class Taking(unittest.TestCase):
    def setUp(self):
        # The host 0 has the names 7 * 2 ** 27 + 1 to 20, of the edition 2; the peer 1 talks with it.
        self.host = host_with(0, (1, 2), some_notes(20))
        self.names = list(lot_names(self.host.store(), WHOLE))

    def give(self, *message):
        return give(self.host, 1, tuple(message))

    def number(self, edition, names, index, lot=WHOLE):
        return self.give(*number_of(edition, lot, names, index))

    def test_refused_peers(self):
        for peer in ODD + (3, 0, 2.0):
            if peer not in (1, 2) or type(peer) is not int:
                self.assertRaises(BadHost, self.host.take, peer, ())

    def test_values_that_are_no_blocks(self):
        state = self.host.state()
        for block in ODD + (blocks_of(("all",))[0][:-3], list(blocks_of(("all",))[0])):
            self.assertEqual(self.host.take(1, block), ())
        self.assertEqual(self.host.state(), state)

    def test_octets_that_are_no_message(self):
        for octets in ((), (9,), (3, 3), (2, 0, 0)):
            for block in cut(5, octets):
                self.assertEqual(self.host.take(1, block), ())

    def test_the_same_numbers_make_a_peer_even(self):
        self.assertEqual(self.number(8, self.names, 5), [])
        self.host.tick()
        self.assertEqual([bool(self.host.tick()) for _ in range(3)], [True, True, True])
        self.assertEqual([[peer for peer, _ in self.host.tick()] for _ in range(4)], [[2], [2], [1, 2], [2]])

    def test_as_many_numbers_as_names_differ(self):
        store = self.host.store()
        other = self.names[2:] + [77, 78, 99]
        for index in (900, 3, 14, 15):
            self.assertEqual(self.number(8, other, index), [])
        self.assertEqual(self.number(8, other, 4), [("ask", 8, (77, 78, 99)), ("notes", store[:2])])
        # Each further one asks and sends again.
        self.assertEqual(self.number(8, other, 4), [("ask", 8, (77, 78, 99)), ("notes", store[:2])])
        self.assertEqual(self.number(8, other, 5), [("ask", 8, (77, 78, 99)), ("notes", store[:2])])

    def test_only_more_or_only_less(self):
        self.assertEqual(self.number(8, self.names + [5], 4), [("ask", 8, (5,))])
        self.assertEqual(self.number(9, self.names[1:], 4), [("notes", self.host.store()[:1])])

    def test_a_number_of_an_elder_edition(self):
        other = self.names + [5, 6]
        self.assertEqual(self.number(8, other, 4), [])
        # It is not kept, but the difference is looked for again.
        self.assertEqual(self.number(7, self.names, 5), [])
        self.assertEqual(self.number(8, other, 6), [("ask", 8, (5, 6))])
        self.assertEqual(self.number(3, self.names, 7), [("ask", 8, (5, 6))])
        # Of a lot of which nothing is kept it does nothing.
        self.assertEqual(self.give("number", 3, (1, 0), 0, 0, 1), [])

    def test_a_greater_edition_forgets_what_was_heard(self):
        other = self.names + [5, 6]
        self.assertEqual(self.number(8, other, 4), [])
        self.assertEqual(self.number(9, other, 5), [])
        self.assertEqual(self.number(9, other, 4), [("ask", 9, (5, 6))])

    def test_the_first_size_of_a_lot_stays(self):
        other = self.names + [5]
        edition, lot, size, index, number = number_of(8, WHOLE, other, 4)[1:]
        self.assertEqual(self.give("number", 8, lot, size, index, number), [("ask", 8, (5,))])
        self.assertEqual(self.give("number", 8, lot, size + 1, 9, number_told(other, 9)), [("ask", 8, (5,))])

    def test_the_last_number_of_an_index_stays(self):
        other = self.names + [5, 6]
        self.assertEqual(self.give("number", 8, WHOLE, 22, 4, 12345), [])
        self.assertEqual(self.number(8, other, 4), [])
        self.assertEqual(self.number(8, other, 6), [("ask", 8, (5, 6))])

    def test_wanted_names_are_asked_for_again(self):
        other = self.names + [5, 6]
        self.number(8, other, 4)
        self.assertEqual(self.number(8, other, 6), [("ask", 8, (5, 6))])
        # Another edition is heard, of which nothing is known yet: what is wanted still is asked for, but what came.
        self.assertEqual(self.give("notes", (note("x", 0, 5),)), [])
        third = other + [9, 10, 11]
        self.assertEqual(self.number(9, third, 4), [("ask", 9, (6,))])
        self.assertEqual(self.give("notes", (note("y", 0, 6),)), [])
        self.assertEqual(self.number(9, third, 5), [])
        self.assertEqual(self.number(9, third, 6), [("ask", 9, (9, 10, 11))])
        self.assertEqual(self.number(10, lot_names(self.host.store(), WHOLE), 1), [])
        # It is even, so nothing is wanted any more.
        self.assertEqual(self.number(11, third + [12, 13], 1), [])

    def test_asks_of_at_most_100_names(self):
        # Many differ, each lot few: the asks are cut.
        host = Host(0, (1,))
        names = [3 * k + 1 for k in range(250)]
        for rest in range(16):
            lot = (4, rest)
            within = [one for one in names if one % 16 == rest]
            for index in range(len(within)):
                back = give(host, 1, number_of(8, lot, within, index))
        self.assertEqual([(message[0], message[1]) for message in back], [("ask", 8)] * 3)
        self.assertEqual([len(message[2]) for message in back], [100, 100, 50])
        self.assertEqual(sum((message[2] for message in back), ()), tuple(names))

    def test_24_numbers_that_do_not_tell_the_difference(self):
        other = list(range(1, 50))
        for index in range(23):
            self.assertEqual(self.number(8, other, index), [])
        self.assertEqual(self.number(8, other, 23), [("part", 8, WHOLE)])
        self.assertEqual(self.number(8, other, 24), [("part", 8, WHOLE)])
        # A 25th number is not kept: with the one for the index 23, which was wrong, it would be found.
        self.assertEqual(self.number(3, other, 24), [("part", 8, WHOLE)])

    def test_24_numbers_that_tell_it(self):
        other = self.names + list(range(1, 25))
        for index in range(23):
            self.assertEqual(self.number(8, other, 40 * index), [])
        self.assertEqual(self.number(8, other, 2 ** 20 - 1), [("ask", 8, tuple(range(1, 25)))])

    def test_a_25th_index_is_not_kept(self):
        other = self.names + list(range(1, 25))
        for index in range(23):
            self.number(8, other, index)
        self.assertEqual(self.give("number", 8, WHOLE, len(other), 23, 777), [("part", 8, WHOLE)])
        for index in (24, 25, 23):
            self.assertEqual(self.number(8, other, index), [("part", 8, WHOLE)])

    def test_the_smallest_lot_is_not_parted(self):
        lot = (20, 5)
        many = 0
        for index in range(24):
            back = self.give("number", 8, lot, 3, index, 4321 + index)
            many += len(back)
        self.assertEqual(back, [("all",), ("notes", self.host.store())])
        self.assertEqual(many, 2)

    def test_lots_that_are_alike_are_done(self):
        names = [one for one in self.names if one % 2 == 1]
        self.assertEqual(self.number(8, names, 5, (1, 1)), [("done", 8, (1, 1))])
        # Another lot of which it is not known how it differs: only the done is sent.
        self.assertEqual(self.give("number", 8, (1, 0), 11, 5, 4321), [])
        self.assertEqual(self.number(8, names, 6, (1, 1)), [("done", 8, (1, 1))])
        # The editions may be told anew.
        self.assertEqual(self.number(9, names, 6, (1, 1)), [("done", 9, (1, 1))])

    def test_nothing_is_asked_while_a_lot_is_not_found(self):
        odd, even = [one for one in self.names if one % 2], [one for one in self.names if one % 2 == 0]
        self.assertEqual(self.number(8, even + [2, 4, 6], 0, (1, 0)), [])
        self.assertEqual(self.number(8, odd + [1], 0, (1, 1)), [])
        self.assertEqual(self.number(8, even + [2, 4, 6], 1, (1, 0)), [])
        self.assertEqual(self.number(8, even + [2, 4, 6], 2, (1, 0)), [("ask", 8, (1, 2, 4, 6))])
        self.assertEqual(self.number(8, odd + [1], 1, (1, 1)), [("ask", 8, (1, 2, 4, 6))])

    def test_a_lot_with_24_numbers_is_not_waited_for(self):
        odd = [one for one in self.names if one % 2]
        for index in range(24):
            self.give("number", 8, (1, 0), 11, index, 4321 + index)
        self.assertEqual(self.number(8, odd + [1], 0, (1, 1)), [("ask", 8, (1,))])

    def test_a_lot_within_one_that_is_found_is_not_waited_for(self):
        odd = [one for one in self.names if one % 2]
        self.assertEqual(self.give("number", 8, (2, 3), 11, 0, 4321), [])
        self.assertEqual(self.number(8, odd + [1], 0, (1, 1)), [("ask", 8, (1,))])
        # But one that is not within it is, and the greater one is not within the smaller one.
        self.assertEqual(self.give("number", 8, (2, 2), 11, 0, 4321), [("ask", 8, (1,))])
        self.assertEqual(self.number(8, odd + [1], 1, (1, 1)), [])
        self.assertEqual(self.number(8, self.names + [1], 0), [("ask", 8, (1,))])

    def test_an_ask(self):
        store = self.host.store()
        self.assertEqual(self.give("ask", 2, (self.names[3], self.names[7])), [("notes", (store[3], store[7]))])
        # Of the own edition and with a name that is not there: all is sent, and asked for.
        self.assertEqual(self.give("ask", 2, (5, self.names[3])), [("all",), ("notes", store)])
        # Of another edition it may well not be there.
        for edition in (0, 1, 3, 2 ** 40 - 1):
            self.assertEqual(self.give("ask", edition, (5, self.names[3])), [("notes", store[3:4])])
            self.assertEqual(self.give("ask", edition, (5,)), [])

    def test_all(self):
        self.assertEqual(self.give("all"), [("notes", self.host.store())])
        self.assertEqual(give(Host(0, (1,)), 1, ("all",)), [])
        self.assertEqual(give(Host(0, (1,)), 1, ("ask", 0, (5,))), [("all",)])

    def test_notes(self):
        before = self.host.store()
        came = (note("k0000", 7, 300, {7: 1}, "new"), note("k0001", 1, 4, {7: 2}), note("k0002", 1, 5))
        self.assertEqual(self.give("notes", came), [])
        self.assertEqual(self.host.store(), merged(before, came))
        self.assertEqual(self.host.state()[2:5], (1, 0, 3))
        # What has come again changes nothing, nor does what is covered.
        for notes in (came, before[:3], came[1:2]):
            self.assertEqual(self.give("notes", notes), [])
            self.assertEqual(self.host.state()[4], 3)
        # Two notes of one host and key: the newer one stays.
        self.give("notes", (note("n", 3, 1), note("n", 3, 2), note("n", 4, 5, {3: 2})))
        self.assertEqual([one[:3] for one in self.host.store() if one[0] == "n"], [("n", 4, 5)])

    def test_notes_hurry_all_talks(self):
        for peer in (1, 2):
            give(self.host, peer, number_of(8, WHOLE, self.names, 5))
        for _ in range(16):
            self.host.tick()
        self.assertEqual(self.host.tick(), ())
        self.give("notes", self.host.store()[:2])
        self.assertEqual(self.host.tick(), ())
        self.give("notes", (note("new", 1, 1),))
        for _ in range(3):
            self.assertEqual([peer for peer, _ in self.host.tick()], [1, 2])

    def lots(self, peer=1):
        return [message[2] for to, _, message in told(self.host.tick()) if to == peer]

    def test_parts_and_dones(self):
        self.assertEqual(self.lots(), [WHOLE])
        for edition in (0, 1, 3):
            self.give("part", edition, WHOLE)
        self.give("part", 2, (1, 0))
        self.give("done", 2, WHOLE)
        self.give("done", 2, (1, 0))
        self.assertEqual(self.lots(), [WHOLE])
        self.give("part", 2, WHOLE)
        self.assertEqual(self.lots(), [(1, 0), (1, 1)])
        self.assertEqual(self.lots(2), [WHOLE])
        self.give("part", 2, WHOLE)
        self.give("part", 2, (1, 0))
        self.assertEqual(self.lots(), [(1, 1), (2, 0), (2, 2)])
        self.give("done", 1, (1, 1))
        self.give("done", 2, (3, 0))
        self.assertEqual(self.lots(), [(1, 1), (2, 0), (2, 2)])
        self.give("done", 2, (1, 1))
        self.give("done", 2, (2, 2))
        self.assertEqual(self.lots(), [(2, 0)])
        self.give("done", 2, (2, 0))
        self.assertEqual(self.lots(), [WHOLE])

    def test_numbers_of_lots(self):
        self.give("part", 2, WHOLE)
        frames = [frame for frame in self.host.tick() if frame[0] == 1]
        odd, even = [one for one in self.names if one % 2], [one for one in self.names if one % 2 == 0]
        self.assertEqual(messages_in(frames), [number_of(2, (1, 0), even, 0), number_of(2, (1, 1), odd, 0)])
        frames = [frame for frame in self.host.tick() if frame[0] == 1]
        self.assertEqual(messages_in(frames), [number_of(2, (1, 0), even, 1), number_of(2, (1, 1), odd, 1)])

    def test_at_most_64_lots(self):
        for level in range(6):
            self.assertEqual(self.lots(), [(level, rest) for rest in range(2 ** level)])
            for rest in range(2 ** level):
                self.give("part", 2, (level, rest))
        lots = [(6, rest) for rest in range(64)]
        self.assertEqual(self.lots(), lots)
        self.give("part", 2, (6, 5))
        self.assertEqual(self.lots(), lots)
        self.give("done", 2, (6, 5))
        lots.remove((6, 5))
        self.assertEqual(self.lots(), lots)
        self.give("part", 2, (6, 63))
        self.assertEqual(self.lots(), lots[:-1] + [(7, 63), (7, 127)])

    def test_lots_of_level_20_are_not_parted(self):
        for level in range(20):
            self.give("part", 2, (level, 0))
        lots = self.lots()
        self.assertEqual(lots[-2:], [(20, 0), (20, 2 ** 19)])
        self.assertEqual(len(lots), 21)
        for lot in lots[-2:]:
            self.give("part", 2, lot)
        self.assertEqual(self.lots(), lots)

    def test_a_fall_loses_the_talks(self):
        other = self.names + [5, 6, 9]
        self.number(8, other, 4)
        self.number(8, other, 5)
        self.give("part", 2, WHOLE)
        notes = blocks_of(("notes", some_notes(5, 3, 50)), 9)
        self.host.take(1, notes[0])
        self.host.fall()
        self.assertEqual(self.lots(), [WHOLE])
        state = self.host.state()
        for block in notes[1:]:
            self.host.take(1, block)
        self.assertEqual(self.host.state(), state)
        self.assertEqual(self.number(8, other, 6), [])
        self.assertEqual(self.number(8, other, 4), [])
        self.assertEqual(self.number(8, other, 5), [("ask", 8, (5, 6, 9))])

    def test_the_life_numbers_the_messages(self):
        self.host.tick()
        self.host.fall()
        frames = give_all(self.host, 1, tuple((1, block) for block in blocks_of(("all",))))
        self.assertEqual([serial for _, serial, _ in told(frames)], [2 * 2 ** 20])
        self.assertEqual([peer for peer, _ in frames], [1] * len(frames))


class Talks(unittest.TestCase):
    def talk(self, hosts, rounds, change=None):
        """Let hosts talk; which messages they sent, until they are alike."""
        sent = Counter()
        for at in range(rounds):
            if len({host.store() for host in hosts}) == 1:
                return at, sent
            flight = [(host.state()[0], frame) for host in hosts for frame in host.tick()]
            while flight:
                number, (peer, block) = flight.pop(0)
                index, octets = piece_of(block)[1], piece_of(block)[3]
                if index == 0:
                    sent[(1, 2, 3, 4, 5, 6).index(octets[0])] += 1
                block = change(block) if change else block
                flight += [(peer, frame) for frame in hosts[peer].take(number, block)] if block else []
        return None, sent

    def pair(self, same, one, two):
        """Two hosts with so many notes alike, and so many of their own each."""
        state = risen((1, (0,), 1, same, 7, tuple(note(f"s{k:05}", 1, k + 1) for k in range(same)))).state()
        hosts = [risen((0, (1,), 1, 0, 3, state[5])), risen(state)]
        for k in range(one):
            hosts[0].write(f"one{k}", k)
        for k in range(two):
            hosts[1].write(f"two{k}", "x" * k)
        return hosts

    def test_as_many_numbers_as_names_differ_in_small_stores_and_in_great_ones(self):
        for same in (0, 3, 300, 20000):
            for one, two in ((1, 0), (0, 1), (1, 1), (3, 5), (12, 12), (24, 0)):
                with self.subTest(same=same, one=one, two=two):
                    hosts = self.pair(same, one, two)
                    rounds, sent = self.talk(hosts, 60)
                    self.assertLessEqual(rounds, one + two)
                    self.assertLessEqual(sent[0], 2 * (one + two))
                    # No host sends all, nor asks for all: an ask and some notes each time a number comes.
                    self.assertEqual((sent[2], sent[4], sent[5]), (0, 0, 0))
                    self.assertLessEqual(sent[3], 8)

    def test_no_host_sends_all_its_notes_where_few_differ(self):
        hosts = self.pair(5000, 4, 4)
        octets = []
        for _ in range(60):
            for host, other in (hosts, hosts[::-1]):
                frames = host.tick()
                octets.append(len(frames))
                back = give_all(other, host.state()[0], frames)
                octets.append(len(back))
                again = give_all(host, other.state()[0], back)
                give_all(other, host.state()[0], again)
        self.assertEqual(hosts[0].store(), hosts[1].store())
        self.assertLess(sum(octets), 200)

    def test_many_differ(self):
        for one, two in ((25, 0), (20, 20), (100, 90)):
            hosts = self.pair(100, one, two)
            rounds, sent = self.talk(hosts, 200)
            self.assertLessEqual(rounds, 64)
            if one + two < 100:
                # The whole lot is parted, and the halves tell the difference before all notes are sent.
                self.assertLess(rounds, 63)
                self.assertGreater(sent[4], 0)
                self.assertEqual(sent[2], 0)

    def test_without_loss_and_with_few_changes(self):
        source = chance(61)
        for changes in (0, 1, 2):
            hosts = self.pair(50, 5, 5)
            rounds, _ = self.talk(hosts, 60, lambda block: spoiled(block, source.randrange(changes + 1), source))
            self.assertLessEqual(rounds, 10)

    def test_spoiled_by_more_is_lost(self):
        source = chance(62)
        hosts = self.pair(50, 5, 5)
        before = [host.state() for host in hosts]
        rounds, sent = self.talk(hosts, 60, lambda block: spoiled(block, source.randrange(3, 7), source))
        self.assertIsNone(rounds)
        self.assertEqual([host.state() for host in hosts], before)
        self.assertLessEqual(self.talk(hosts, 20)[0], 10)

    def test_frames_that_come_again_change_nothing(self):
        hosts = self.pair(50, 5, 5)
        seen = []
        while hosts[0].store() != hosts[1].store():
            for host, other in (hosts, hosts[::-1]):
                frames = host.tick()
                back = give_all(other, host.state()[0], frames)
                again = give_all(host, other.state()[0], back)
                give_all(other, host.state()[0], again)
                seen += [(other, host.state()[0], frames + again), (host, other.state()[0], back)]
        states = [host.state()[3:] for host in hosts]
        for _ in range(2):
            for host, number, frames in seen[::-1]:
                give_all(host, number, frames[::-1])
                give_all(host, number, frames)
        self.assertEqual([host.state()[3:] for host in hosts], states)

    def test_a_fall_in_the_middle_of_a_talk(self):
        hosts = self.pair(50, 6, 6)
        self.assertIsNone(self.talk(hosts, 4)[0])
        hosts[0].fall()
        self.assertLessEqual(self.talk(hosts, 20)[0], 12)

    def test_three_hosts(self):
        hosts = [Host(0, (1, 2)), Host(1, (0, 2)), Host(2, (0, 1))]
        for k in range(5):
            for host in hosts:
                host.write(f"k{k}{host.state()[0] if k else ''}", k)
        self.assertLess(self.talk(hosts, 40)[0], 40)
        self.assertEqual(hosts[0].read("k0"), (0, 0, 0))


class BesideTheModel(unittest.TestCase):
    def test_hosts_do_just_what_the_points_tell(self):
        phases = ((3, 10), (60, 45), (5, 20), (0, 40))
        sent = Counter()
        for seed, hosts, loss in ((1, 2, 0), (2, 2, 0.02), (3, 2, 0.1), (4, 3, 0.02), (5, 2, 0.02), (6, 4, 0.02)):
            with self.subTest(seed=seed):
                sent.update(lead(self, seed, hosts, phases, loss))
        for word in ("number", "ask", "all", "notes", "part", "done"):
            self.assertGreater(sent[word], 10)


if __name__ == "__main__":
    unittest.main()
