import unittest

from lines import give, give_all
from meetstores.errors import BadHost, BadRoll, BadSerial, BadStore, BadThing
from meetstores.hosts import Host
from meetstores.keeping import risen
from meetstores.notes import written
from meetstores.rolls import roll_out, rolls, sweep_up
from meetstores.worlds import World
from samples import ODD, chance, note

LAST = 2 ** 27 - 1
SIGNS = "abcdefghijklmnopqrstuvwxyzABCDEFGHIJKLMNOPQRSTUVWXYZ0123456789 .,:;-_/+*()=?!"


def some_text(many, seed):
    source = chance(seed)
    return "".join(source.choice(SIGNS) for _ in range(many))


def store_of(values):
    """A store in which the host 0 has written these values, key by key."""
    store = ()
    for serial, (key, value) in enumerate(values, 1):
        store = written(store, 0, serial, key, value)
    return store


class Out(unittest.TestCase):
    def test_texts_of_each_length(self):
        for many in (0, 1, 199, 200, 201, 399, 400, 401, 2100, 20000):
            text = some_text(many, many)
            host = Host(3, ())
            host.write("before", 1)
            self.assertIsNone(roll_out(host, "book", text))
            sheets = [text[at:at + 200] for at in range(0, many, 200)]
            version = f"3_{len(sheets) + 2}"
            self.assertEqual(host.read("book"), (f"{version}_{len(sheets)}",))
            for index, sheet in enumerate(sheets):
                key = f"book+{version}+{index}"
                self.assertEqual(host.read(key), (sheet,))
                self.assertEqual([one[2] for one in host.store() if one[0] == key], [index + 2])
            self.assertEqual(len(host.store()), len(sheets) + 2)
            self.assertEqual(host.state()[3:5], (len(sheets) + 2,) * 2)
            self.assertEqual(rolls(host.store(), "book"), (text,))

    def test_the_longest_names(self):
        host = risen((7, (), 1, LAST - 101, 0, ()))
        roll_out(host, "t" * 20, "x" * 20000)
        self.assertEqual(host.state()[3], LAST)
        self.assertEqual(host.read("t" * 20), (f"7_{LAST}_100",))
        self.assertEqual(rolls(host.store(), "t" * 20), ("x" * 20000,))

    def test_serials_that_do_not_reach(self):
        for left, many in ((0, 0), (1, 1), (1, 200), (2, 201), (2, 400), (100, 20000)):
            state = (0, (), 2, LAST - left, 5, ())
            host = risen(state)
            self.assertRaises(BadSerial, roll_out, host, "book", "x" * many)
            self.assertEqual(host.state(), state[:2] + (3,) + state[3:])
        host = risen((0, (), 2, LAST - 2, 5, ()))
        roll_out(host, "book", "x" * 200)
        self.assertEqual(rolls(host.store(), "book"), ("x" * 200,))

    def test_several_hosts(self):
        world = World(3, ((0, 1), (1, 2)))
        texts = [some_text(many, many) for many in (500, 0, 201)]
        for number, text in enumerate(texts):
            roll_out(world.host(number), "book", text)
        self.assertEqual([rolls(world.store(number), "book") for number in range(3)], [(text,) for text in texts])
        world.settle(60)
        for number in range(3):
            self.assertEqual(rolls(world.store(number), "book"), tuple(texts))
        roll_out(world.host(1), "book", "one text again")
        world.settle(60)
        for number in range(3):
            self.assertEqual(rolls(world.store(number), "book"), ("one text again",))

    def test_a_text_that_has_come_in_part(self):
        one, two = Host(0, (1,)), Host(1, (0,))
        text = some_text(700, 7)
        roll_out(one, "book", text)
        notes = one.store()
        head, sheets = notes[0], notes[1:]
        self.assertEqual((head[0], len(sheets)), ("book", 4))
        give(two, 0, ("notes", (head,)))
        self.assertEqual(rolls(two.store(), "book"), (None,))
        for at in (2, 0, 3):
            give(two, 0, ("notes", (sheets[at],)))
            self.assertEqual(rolls(two.store(), "book"), (None,))
        give(two, 0, ("notes", (sheets[1],)))
        self.assertEqual(rolls(two.store(), "book"), (text,))

    def test_while_it_comes_over_a_line(self):
        world = World(2, ((0, 1),))
        texts = [some_text(1500, 1), some_text(900, 2)]
        seen = {None: 0, texts[0]: 0, texts[1]: 0}
        for text in texts:
            roll_out(world.host(0), "book", text)
            for _ in range(20):
                for number in (0, 1):
                    world.tick(number)
                while world.flight():
                    world.deliver(0)
                    for read in rolls(world.store(1), "book"):
                        seen[read] += 1
        self.assertGreater(seen[texts[0]], 0)
        self.assertGreater(seen[texts[1]], 0)
        self.assertEqual(len(seen), 3)


class Reading(unittest.TestCase):
    def test_values_that_are_heads(self):
        for value in ("0_0_0", "7_134217727_0", "999999999_999999999_0", "12_5_0"):
            self.assertEqual(rolls(store_of([("t", value)]), "t"), ("",))
        for value in ("0_5_1", "0_5_999999999", "999999999_0_100"):
            self.assertEqual(rolls(store_of([("t", value)]), "t"), (None,))
        for value in ("", "_", "__", "0_5", "0_5_", "_5_0", "0__0", "0_5_0_", "0_5_0_0", "00_5_0", "0_05_0", "0_5_00", "0_5_-1",
                      "0_5_+0", " 0_5_0", "0_5_0 ", "0 _5_0", "a_5_0", "0_5_a", "0-5-0", "1000000000_5_0", "0_1000000000_0",
                      "0_5_1000000000", "0_5_0.", "0_" + "5" * 190 + "_0", 5, 0, None):
            self.assertEqual(rolls(store_of([("t", value)]), "t"), ())

    def test_notes_in_their_order(self):
        store = (note("t", 0, 9, value="0_9_1"), note("t", 2, 9, value="no roll"), note("t", 3, 9, value="3_9_2"),
                 note("t", 5, 9, value="5_9_0"), note("t+0_9+0", 0, 8, value="zero"), note("t+3_9+0", 3, 7, value="three"),
                 note("t+3_9+1", 3, 8, value=" and more"))
        self.assertEqual(rolls(store, "t"), ("zero", "three and more", ""))
        self.assertEqual(rolls(store[:-1], "t"), ("zero", None, ""))
        self.assertEqual(rolls(store[3:], "t"), ("",))
        self.assertEqual(rolls(store, "u"), ())
        self.assertEqual(rolls((), "t"), ())

    def test_sheets(self):
        head = ("t", "0_9_2")
        first, last = ("t+0_9+0", "a" * 10), ("t+0_9+1", "")
        self.assertEqual(rolls(store_of([head, first, last]), "t"), ("a" * 10,))
        self.assertEqual(rolls(store_of([head, first]), "t"), (None,))
        self.assertEqual(rolls(store_of([head, last]), "t"), (None,))
        for value in (None, 5, 0):
            self.assertEqual(rolls(store_of([head, first, (last[0], value)]), "t"), (None,))
        # Sheets beyond are not read, and other keys are none.
        self.assertEqual(rolls(store_of([head, first, last, ("t+0_9+2", 5), ("t+0_9+00", 5)]), "t"), ("a" * 10,))

    def test_the_last_note_of_a_sheet_counts(self):
        head = note("t", 0, 9, value="0_9_1")
        for values, text in ((("one", "two"), "two"), (("one", None), None), ((None, "two"), "two"), ((5, "x"), "x")):
            store = (head,) + tuple(note("t+0_9+0", host, 3, value=value) for host, value in enumerate(values))
            self.assertEqual(rolls(store, "t"), (text,))

    def test_refused(self):
        for store, index in ((None, None), ([], None), ((1,), 0), ((note("a", 0, 0),), 0)):
            with self.assertRaises(BadStore) as caught:
                rolls(store, None)
            self.assertEqual(caught.exception.index, index)
        bad_things = tuple(value for value in ODD if value != "a") + ("x" * 21, "a+", "a/b", "it's", ("a",))
        host, state = Host(0, ()), Host(0, ()).state()
        for thing in bad_things:
            self.assertRaises(BadThing, rolls, (), thing)
            self.assertRaises(BadThing, roll_out, host, thing, None)
            self.assertRaises(BadThing, sweep_up, host, thing)
        for other in ODD + (World(2, ()), Host, "host"):
            self.assertRaises(BadHost, roll_out, other, None, None)
            self.assertRaises(BadHost, sweep_up, other, None)
        for text in ODD + ("x" * 20001, "it's", "a" * 300 + "\n", "\u00e9" * 3, ("a",), ["a"]):
            if type(text) is not str or set(text) - set("a"):
                self.assertRaises(BadRoll, roll_out, host, "a", text)
        self.assertRaises(BadRoll, roll_out, risen((0, (), 1, LAST, 0, ())), "a", "x" * 20001)
        self.assertEqual(host.state(), state)


class Sweeping(unittest.TestCase):
    def test_elder_versions_are_swept(self):
        host = Host(0, ())
        texts = [some_text(many, many) for many in (450, 0, 201, 400)]
        for text in texts:
            roll_out(host, "book", text)
        roll_out(host, "other", "x" * 300)
        before = host.store()
        serial = host.state()[3]
        self.assertEqual(sweep_up(host, "book"), 3 + 2)
        swept = [one for one in host.store() if one not in before]
        self.assertEqual([one[0] for one in swept],
                         [f"book+0_4+{k}" for k in range(3)] + [f"book+0_8+{k}" for k in range(2)])
        self.assertEqual([one[2:] for one in swept],
                         [(serial + 1 + k, tuple([one[2] for one in before if one[0] == key] + [0] * 7), None)
                          for k, key in enumerate(one[0] for one in swept)])
        self.assertEqual(rolls(host.store(), "book"), (texts[3],))
        self.assertEqual(rolls(host.store(), "other"), ("x" * 300,))
        state = host.state()
        self.assertEqual(sweep_up(host, "book"), 0)
        self.assertEqual(sweep_up(host, "nothing"), 0)
        self.assertEqual(host.state(), state)

    def test_nothing_of_use_is_struck(self):
        values = [
            ("t", "0_9_1"), ("t+0_9+0", "x"), ("t+0_9+7", "x"), ("t+0_9+y", "x"), ("t+0", 5), ("t+0_8", 5), ("t/0_8+0", 5),
            ("t+0_8+0+0", 5), ("t+0_8+0+", 5), ("t+08_1+0", 5), ("t+0_08+0", 5), ("t+0_8_1+0", 5), ("t+8+0", 5), ("t+_+0", 5),
            ("t+1000000000_1+0", 5), ("t+0_1000000000+0", 5), ("t+a_1+0", 5), ("tt+0_8+0", 5), ("u+0_8+0", 5),
            ("t++0_8+0", 5), ("+t+0_8+0", 5), ("t+0_8+gone", None), ("t +0_8+0", 5), ("t+ 0_8+0", 5),
        ]
        host = risen((0, (), 1, 99, 0, store_of(values)))
        state = host.state()
        self.assertEqual(sweep_up(host, "t"), 0)
        self.assertEqual(host.state(), state)

    def test_what_is_of_no_use(self):
        kept = [("t", "0_9_1"), ("t+0_9+0", "x")]
        swept = [("t+0_8+0", "x"), ("t+0_8+anything", 5), ("t+0_90+0", ""), ("t+3_7+5", 0), ("t+999999999_0+0", "x")]
        host = risen((0, (), 1, 99, 0, store_of(kept + swept)))
        self.assertEqual(sweep_up(host, "t"), 5)
        struck = [one for one in host.store() if one[4] is None]
        self.assertEqual([one[0] for one in struck], sorted(key for key, _ in swept))
        self.assertEqual([one[2] for one in struck], [100, 101, 102, 103, 104])
        self.assertEqual(rolls(host.store(), "t"), ("x",))

    def test_only_own_notes(self):
        host = Host(1, (0,))
        other = (note("t+0_3+0", 0, 1, value="x"), note("t+0_3+1", 0, 2, value="x"), note("t+1_3+0", 0, 3, value="x"))
        give(host, 0, ("notes", other))
        self.assertEqual(sweep_up(host, "t"), 0)
        self.assertEqual(host.store(), other)

    def test_versions_of_all_notes_are_of_use(self):
        # Two hosts wrote at a time: neither one sweeps what the other one's note still tells, be it whole or not.
        world = World(2, ((0, 1),))
        for number in (0, 1):
            roll_out(world.host(number), "book", "x" * (300 + number))
        world.settle(20)
        self.assertEqual([sweep_up(world.host(number), "book") for number in (0, 1)], [0, 0])
        roll_out(world.host(0), "book", "new")
        self.assertEqual(sweep_up(world.host(1), "book"), 0)
        self.assertEqual(sweep_up(world.host(0), "book"), 2)
        world.settle(20)
        self.assertEqual(sweep_up(world.host(1), "book"), 2)
        world.settle(20)
        self.assertEqual([rolls(world.store(number), "book") for number in (0, 1)], [("new",)] * 2)
        store = store_of([("t", "0_9_5"), ("t+0_9+0", "x")])
        host = risen((0, (), 1, 99, 0, store))
        self.assertEqual(sweep_up(host, "t"), 0)

    def test_serials_that_do_not_reach(self):
        store = store_of([("t", "0_9_0"), ("t+0_8+0", "x"), ("t+0_8+1", "x")])
        for left in (0, 1):
            host = risen((0, (), 1, LAST - left, 0, store))
            state = host.state()
            self.assertRaises(BadSerial, sweep_up, host, "t")
            self.assertEqual(host.state(), state)
            self.assertEqual(sweep_up(host, "u"), 0)
        host = risen((0, (), 1, LAST - 2, 0, store))
        self.assertEqual(sweep_up(host, "t"), 2)
        self.assertEqual(host.state()[3], LAST)
        self.assertEqual(sweep_up(host, "t"), 0)


class BadLine(unittest.TestCase):
    def test_rolls_over_a_bad_line(self):
        source = chance(120)
        one, two = Host(0, (1,)), Host(1, (0,))
        text = some_text(3000, 3)
        roll_out(one, "book", text)
        for _ in range(60):
            for host, other in ((one, two), (two, one)):
                frames = [frame for frame in host.tick() if source.random() > 0.2]
                back = [frame for frame in give_all(other, host.state()[0], frames) if source.random() > 0.2]
                give_all(other, host.state()[0], give_all(host, other.state()[0], back))
        self.assertEqual(rolls(two.store(), "book"), (text,))


if __name__ == "__main__":
    unittest.main()
