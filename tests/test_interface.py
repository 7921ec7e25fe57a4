import importlib
import inspect
import unittest

from meetstores.errors import Wrong

INTERFACE = {
    "octets": {
        "write_count": "number", "write_text": "text", "write_value": "value", "read_count": "octets at",
        "read_text": "octets at", "read_value": "octets at",
    },
    "guard": {"guarded": "octets", "mended": "block"},
    "pieces": {"cut": "serial message", "piece_of": "block"},
    "prime": {"value_at": "poly place", "by_roots": "roots", "common": "poly other", "roots": "poly"},
    "notes": {
        "name_of": "note", "parts_of": "name", "covers": "note other", "read": "store key",
        "written": "store host serial key value", "merged": "store other", "differ": "store other",
    },
    "finds": {"told": "store index", "find": "size tells store"},
    "lots": {"lot_names": "store lot", "halves": "lot", "find_lot": "size tells store lot"},
    "messages": {"write_message": "message", "read_message": "octets"},
    "scripts": {"write_script": "steps", "read_script": "text", "run": "steps"},
    "keeping": {"keep": "state", "restore": "blocks", "risen": "state"},
    "kinds": {
        "total": "store thing", "adding": "store host thing amount", "putting": "thing item", "taking": "thing item",
        "items": "store thing",
    },
    "rolls": {"roll_out": "host thing text", "rolls": "store thing", "sweep_up": "host thing"},
    "scans": {"page": "store after many"},
    "deltas": {"delta": "store older", "with_deltas": "store deltas", "deltas_of": "stores"},
    "choices": {"chosen": "store key manner", "doubtful": "store", "settle_all": "host manner"},
}
METHODS = {
    ("pieces", "Gatherer"): {"__init__": "self", "take": "self block", "waiting": "self"},
    ("hosts", "Host"): {
        "__init__": "self number peers", "store": "self", "state": "self", "read": "self key", "write": "self key value",
        "fall": "self", "tick": "self", "take": "self peer block",
    },
    ("worlds", "World"): {
        "__init__": "self hosts links", "host": "self number", "write": "self number key value",
        "read": "self number key", "store": "self number", "state": "self number", "fall": "self number",
        "tick": "self number", "flight": "self", "are_alike": "self", "cut": "self one two", "heal": "self one two",
        "lose": "self place", "double": "self place", "spoil": "self place at octet", "deliver": "self place",
        "deliver_all": "self", "settle": "self rounds",
    },
    ("desk", "Desk"): {"__init__": "self host", "ask": "self text"},
    ("mirrors", "Log"): {"__init__": "self host", "mark": "self", "since": "self edition"},
    ("mirrors", "Mirror"): {"__init__": "self", "take": "self answer", "table": "self"},
    ("clients", "Client"): {"__init__": "self number", "order": "self text", "blocks": "self", "take": "self block"},
    ("clients", "Counter"): {"__init__": "self desk", "take": "self client block", "state": "self", "fall": "self"},
    ("trips", "Trip"): {
        "__init__": "self", "known": "self key", "is_behind": "self host key", "read": "self host key",
        "write": "self host key value", "hand_on": "self other",
    },
    ("indexes", "Index"): {
        "__init__": "self", "follow": "self store", "keys_with": "self word", "keys_with_all": "self words",
        "words": "self",
    },
}


class Interface(unittest.TestCase):
    def test_functions(self):
        for file, functions in INTERFACE.items():
            module = importlib.import_module(f"meetstores.{file}")
            for name, parameters in functions.items():
                function = getattr(module, name)
                self.assertEqual(function.__module__, module.__name__)
                self.assertEqual(list(inspect.signature(function).parameters), parameters.split())

    def test_methods(self):
        for (file, name), methods in METHODS.items():
            module = importlib.import_module(f"meetstores.{file}")
            self.assertEqual(getattr(module, name).__module__, module.__name__)
            for method, parameters in methods.items():
                function = vars(getattr(module, name))[method]
                self.assertEqual(list(inspect.signature(function).parameters), parameters.split())


class Examples(unittest.TestCase):
    def test_octets(self):
        from meetstores.octets import read_count, read_value, write_count, write_text, write_value
        self.assertEqual(
            [write_count(300), read_count((172, 2, 9), 0), write_text("ab 1"), write_value(-3),
             read_value((2, 1, 0), 0), write_value(None)],
            [(172, 2), (300, 2), (4, 0, 1, 62, 53), (1, 5), ("a", 3), (0,)])
        with self.assertRaises(Wrong) as caught:
            read_count((128, 0), 0)
        self.assertEqual(caught.exception.place, 1)

    def test_guard(self):
        from meetstores.guard import guarded, mended
        block = guarded((1, 2, 3))
        self.assertEqual(
            [len(block), mended(block), mended((9, 2) + block[2:]), mended((9, 2, 3, 77) + block[4:]),
             mended((9, 9, 9) + block[3:])],
            [11, (1, 2, 3), (1, 2, 3), (1, 2, 3), None])

    def test_pieces(self):
        from meetstores.pieces import Gatherer, cut, piece_of
        blocks, gatherer = cut(7, (5,) * 50), Gatherer()
        self.assertEqual(
            [len(blocks), piece_of(blocks[1]), gatherer.take(blocks[1]), gatherer.waiting(), gatherer.take(blocks[1]),
             gatherer.take(blocks[0]) == (7, (5,) * 50), gatherer.waiting()],
            [2, (7, 1, 2, (5, 5, 5, 5, 5, 5, 5, 5, 5, 5)), None, ((7, 2, (1,)),), None, True, ()])

    def test_prime(self):
        from meetstores.prime import by_roots, common, roots, value_at
        self.assertEqual(
            [by_roots((1, 2)), roots(by_roots((5, 3))), roots((1, 0, 1)),
             common(by_roots((1, 2)), by_roots((2, 3))), value_at((1, 1), 4)],
            [(2, 2305843009213693948, 1), (3, 5), None, (2305843009213693949, 1), 5])

    def test_notes(self):
        from meetstores.notes import covers, differ, merged, name_of, read, written
        one = written((), 0, 1, "fruit", "apple")
        two = written((), 1, 1, "fruit", "pear")
        both = merged(one, two)
        three = written(both, 0, 2, "fruit", "fig")
        self.assertEqual(
            [read(both, "fruit"), three[0][3], covers(three[0], two[0]), merged(three, two) == three,
             differ(one, three), name_of(two[0])],
            [("apple", "pear"), (1, 1, 0, 0, 0, 0, 0, 0), True, True, (1, 2), 134217729])

    def test_finds(self):
        from meetstores.finds import find, told
        from meetstores.notes import written
        one = written(written((), 0, 1, "a", 1), 0, 2, "b", 2)
        two = written((), 1, 5, "c", 3)
        tells = tuple([(index, told(one, index)) for index in (4, 9, 700)])
        self.assertEqual([find(2, tells, two), find(2, tells[:2], two), find(2, tells, one)],
                         [((1, 2), (134217733,)), None, ((), ())])

    def test_lots(self):
        from meetstores.lots import find_lot, halves, lot_names
        from meetstores.notes import written
        store = written(written(written((), 0, 1, "a", 1), 0, 2, "b", 2), 0, 3, "c", 3)
        self.assertEqual(
            [lot_names(store, (1, 1)), lot_names(store, (0, 0)), halves((1, 1)),
             find_lot(1, ((0, 1073741821),), store, (1, 1))],
            [(1, 3), (1, 2, 3), ((2, 1), (2, 3)), ((), (1,))])

    def test_messages(self):
        from meetstores.messages import read_message, write_message
        self.assertEqual(
            [write_message(("number", 3, (0, 0), 2, 0, 300)), read_message((2, 3, 1, 5)), write_message(("all",)),
             write_message(("part", 3, (2, 1)))],
            [(1, 3, 0, 0, 2, 0, 172, 2), ("ask", 3, (5,)), (3,), (5, 3, 2, 1)])

    def test_hosts(self):
        from meetstores.hosts import Host
        one, two = Host(0, (1,)), Host(1, (0,))
        one.write("fruit", "apple")
        self.assertEqual([one.state()[:5], len(one.tick()), two.tick()[0][0], one.read("fruit")],
                         [(0, (1,), 1, 1, 1), 1, 0, ("apple",)])

    def test_worlds(self):
        from meetstores.worlds import World
        world = World(2, ((0, 1),))
        world.write(0, "fruit", "apple")
        world.write(1, "fruit", "pear")
        self.assertEqual([world.are_alike(), world.settle(9), world.read(1, "fruit"), world.are_alike()],
                         [False, 2, ("apple", "pear"), True])

    def test_scripts(self):
        from meetstores.scripts import read_script, run, write_script
        steps = read_script("world 2 0-1\nwrite 0 'fruit' 'red apple'\nsettle 9\nshow 1 'fruit'\nalike")
        self.assertEqual([steps[1], run(steps)[1], write_script(steps[:1])],
                         [("write", 0, "fruit", "red apple"), ("1", "'red apple'", "yes"), "world 2 0-1"])

    def test_keeping(self):
        from meetstores.hosts import Host
        from meetstores.keeping import keep, restore, risen
        host = Host(2, (0, 1))
        host.write("fruit", None)
        self.assertEqual(
            [restore(keep(host.state())) == host.state(), len(keep(host.state())), risen(host.state()).state()[2:5]],
            [True, 1, (2, 1, 1)])

    def test_kinds(self):
        from meetstores.kinds import adding, items, putting, total
        from meetstores.notes import written
        store = written((), 3, 1, "visits+3", 5)
        self.assertEqual(
            [total(store, "visits"), adding(store, 3, "visits", -2), putting("bag", "pen"), items(store, "bag")],
            [5, ("visits+3", 3), ("bag/pen", 1), ()])

    def test_rolls(self):
        from meetstores.hosts import Host
        from meetstores.rolls import roll_out, rolls, sweep_up
        host = Host(0, ())
        roll_out(host, "book", "a" * 250)
        roll_out(host, "book", "second")
        self.assertEqual(
            [rolls(host.store(), "book"), sweep_up(host, "book"), rolls(host.store(), "book"), host.read("book")],
            [("second",), 2, ("second",), ("0_5_1",)])

    def test_desk(self):
        from meetstores.desk import Desk
        from meetstores.hosts import Host
        desk = Desk(Host(0, ()))
        self.assertEqual(
            [desk.ask("set 'fruit' 'red apple'"), desk.ask("get 'fruit'"), desk.ask("add 'visits' #3"),
             desk.ask("total 'visits'"), desk.ask("keys 'a' 'g'"), desk.ask("find 'apple'")],
            ["done", "'red apple'", "done", "3", "'fruit'", "'fruit'"])

    def test_scans(self):
        from meetstores.notes import written
        from meetstores.scans import page
        store = written(written(written((), 0, 1, "a", 1), 0, 2, "b", 2), 0, 3, "c", 3)
        self.assertEqual([page(store, None, 2), page(store, "b", 2)],
                         [((("a", (1,)), ("b", (2,))), "b"), ((("c", (3,)),), None)])

    def test_mirrors(self):
        from meetstores.hosts import Host
        from meetstores.mirrors import Log, Mirror
        host, mirror = Host(0, ()), Mirror()
        log = Log(host)
        host.write("fruit", "fig")
        mirror.take(log.since(mirror.edition))
        self.assertEqual(
            [mirror.table(), mirror.edition, log.since(1), log.since(0)],
            [(("fruit", ("fig",)),), 1, ("changes", 1, ()), ("changes", 1, (("fruit", ("fig",)),))])

    def test_clients(self):
        from meetstores.clients import Client, Counter
        from meetstores.desk import Desk
        from meetstores.hosts import Host
        client, counter = Client(5), Counter(Desk(Host(0, ())))
        client.order("add 'visits' #2")
        order = client.blocks()[0]
        back = counter.take(5, order)
        self.assertEqual([counter.take(5, order) == back, client.take(back[0]), client.blocks(), counter.state()],
                         [True, "done", (), ((5, 1, "done"),)])

    def test_deltas(self):
        from meetstores.deltas import delta, with_deltas
        from meetstores.notes import written
        older = written((), 0, 1, "a", 1)
        store = written(older, 0, 2, "b", 2)
        self.assertEqual(
            [len(delta(store, older)), delta(older, store), with_deltas(older, (delta(store, older),)) == store],
            [1, (), True])

    def test_trips(self):
        from meetstores.hosts import Host
        from meetstores.trips import Trip
        one, other, trip = Host(0, ()), Host(1, ()), Trip()
        trip.write(one, "fruit", "fig")
        self.assertEqual(
            [trip.read(one, "fruit"), trip.is_behind(other, "fruit"), trip.is_behind(other, "tree"),
             trip.known("fruit")],
            [("fig",), True, False, (1, 0, 0, 0, 0, 0, 0, 0)])

    def test_indexes(self):
        from meetstores.indexes import Index
        from meetstores.notes import written
        index = Index()
        store = written(written((), 0, 1, "a", "red fig"), 0, 2, "b", "red, old")
        self.assertEqual(
            [index.follow(store), index.keys_with("red"), index.keys_with_all(("red", "fig")), index.words()],
            [2, ("a", "b"), ("a",), ("fig", "old", "red")])

    def test_choices(self):
        from meetstores.choices import chosen, doubtful
        from meetstores.notes import merged, written
        store = merged(written((), 0, 1, "a", 5), written((), 1, 1, "a", "fig"))
        self.assertEqual(
            [doubtful(store), chosen(store, "a", "least"), chosen(store, "a", "last"), chosen(store, "a", "sum"),
             chosen(store, "b", "most")],
            [("a",), 5, "fig", 5, None])


if __name__ == "__main__":
    unittest.main()
