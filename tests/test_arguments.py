"""All functions and methods with wrong arguments: the error of the leftmost one, of no other class, nothing changed."""

import copy
import importlib
import itertools
import unittest

from meetstores import errors
from meetstores.clients import Client, Counter
from meetstores.desk import Desk
from meetstores.hosts import Host
from meetstores.indexes import Index
from meetstores.keeping import keep, risen
from meetstores.mirrors import Log, Mirror
from meetstores.octets import SIGNS
from meetstores.pieces import Gatherer, cut
from meetstores.rolls import roll_out
from meetstores.trips import Trip
from meetstores.worlds import World
from samples import ODD, PRIME, note
from test_interface import INTERFACE, METHODS

NOTE = note("a", 0, 1, value="x")
STORE = (NOTE,)
PLAIN = (int, str, bool, type(None))
BLOCK = cut(1, (5, 1, 0))[0]
# By each kind of argument: the name of its error, a good value, and wrong values.
KINDS = {
    "octets": ("BadOctets", (5, 1), ([5], None, (256,), (True,), "a")),
    "text octets": ("BadOctets", (1, 1), ([5], None, (256,), (True,), "a")),
    "some octets": ("BadOctets", (5, 1), ([5], None, (256,), (), (1,) * 101)),
    "block": ("BadOctets", (0,) * 9, (None, (0,) * 8, (0,) * 109, (256,) * 9)),
    "message octets": ("BadOctets", (3,), ((0,) * 4001, None, (True,))),
    "place": ("BadPlace", 0, (-1, 99, None, True)),
    "count": ("BadCount", 1, (-1, 2 ** 63, True, None)),
    "message serial": ("BadCount", 1, (-1, 2 ** 40, True, None)),
    "text": ("BadText", "a", ("'", 5, None, "a" * 201)),
    "value": ("BadValue", 5, ("'", True, (), 2 ** 40 + 1)),
    "poly": ("BadPoly", (1, 1), ((0,), None, (PRIME,), [1])),
    "number": ("BadRoots", 5, (PRIME, -1, None, True)),
    "roots": ("BadRoots", (5,), ((PRIME,), None, [5], (1,) * 61)),
    "key": ("BadKey", "a", ("", None, "a" * 41, "'")),
    "host number": ("BadHost", 0, (8, -1, None, True)),
    "serial": ("BadSerial", 2, (0, 2 ** 27, None, True)),
    "name": ("BadName", 1, (0, 2 ** 27, None, 2 ** 30)),
    "note": ("BadNote", NOTE, ((), None, note("a", 0, 0), list(NOTE))),
    "store": ("BadStore", STORE, ([], None, (1,), STORE * 2)),
    "index": ("BadIndex", 0, (-1, 2 ** 20, None, True)),
    "tells": ("BadTells", ((0, 1),), ([], None, ((0, 0),), ((1, 1), (0, 1)))),
    "size": ("BadSize", 1, (-1, 2 ** 20 + 1, None, True)),
    "lot": ("BadLot", (0, 0), ((0, 1), None, (21, 0), [0, 0])),
    "message": ("BadMessage", ("all",), (("all", 1), None, [], "all")),
    "peers": ("BadHosts", (1,), ((0,), (2, 1), None, [1])),
    "hosts": ("BadCount", 3, (1, 9, None, True)),
    "links": ("BadLinks", ((0, 1), (1, 2)), (((1, 0),), ((0, 1), (0, 1)), None, [(0, 1)])),
    "world host": ("BadHost", 0, (3, -1, None, True)),
    "other host": ("BadHost", 1, (3, -1, None, "1")),
    "frame": ("NoFrame", 0, (99, -1, None, True)),
    "at": ("BadCount", 0, (999, -1, None, True)),
    "octet": ("BadCount", 0, (256, -1, None, True)),
    "rounds": ("BadCount", 0, (1001, -1, None, True)),
    "steps": ("BadSteps", (("world", 2, ()),), ((), None, (("flush",),))),
    "script": ("NotText", "world 2", (5, None, ())),
    "state": ("BadState", (0, (), 1, 1, 1, ()), ((), None, (0, (0,), 1, 1, 1, ()))),
    "blocks": ("BadBlocks", keep((0, (), 1, 1, 1, ())), (None, [], ((1,),))),
    "thing": ("BadThing", "t", ("", None, "a+", "a/", "t" * 21)),
    "amount": ("BadAmount", 1, (None, True, 2 ** 40 + 1, "1")),
    "item": ("BadItem", "i", ("", None, "i" * 19, 1)),
    "Host": ("BadHost", None, (None, 0, (), "host", {}, Trip())),
    "roll": ("BadRoll", "x", (None, 5, "'", "x" * 20001)),
    "peer": ("BadHost", 1, (0, 2, None, True, [1])),
    "desk host": ("BadDesk", Host(0, ()), (None, 0, (), "host", Desk(Host(0, ())))),
    "question": ("NotText", "count", (None, 5, ("count",), ["count"])),
    "after": ("BadKey", None, ("", 5, "a" * 41, True)),
    "many": ("BadCount", 1, (0, 101, None, True)),
    "answer": ("BadAnswer", ("all", 1, (("a", (1,)),)), (None, (), ("some", 1, ()), ("all", True, ()))),
    "client": ("BadClient", 5, (-1, 2 ** 20, None, True)),
    "words": ("BadText", "count", (None, "\n", "a" * 201, 5)),
    "desk": ("BadDesk", Desk(Host(0, ())), (None, 0, (), "desk", Host(0, ()))),
    "stores": ("BadStore", (STORE, ()), (None, [], ((1,),), STORE, ((),) * 101)),
    "Trip": ("BadHost", Trip(), (None, 0, (), "trip", Host(0, ()))),
    "word": ("BadWord", "red", ("", None, "a b", "a" * 41)),
    "some words": ("BadWord", ("red", "fig"), ((), None, ["red"], ("red", ""), "red")),
    "manner": ("BadManner", "least", (None, "", "mean", ["least"])),
    "anything": ("", BLOCK, ()),
}
# By some kinds: errors that a value which is none of the wrong ones may lead to, too.
BESIDE = {
    "place": ("Short",), "octets": ("Short", "Wrong"), "text octets": ("Short", "Wrong"), "message octets": ("Unread",), "blocks": ("Unread",),
    "script": ("BadLine",), "question": ("Unasked",), "world host": ("NoLink",), "other host": ("NoLink",),
    "host number": ("BadHosts",), "hosts": ("BadLinks",),
}


def host():
    """A host that has written, with notes side by side."""
    made = risen((0, (1,), 1, 5, 3, (NOTE, note("b", 0, 4), note("b", 1, 1, value=5))))
    roll_out(made, "t", "a" * 250)
    return made


def plain(function):
    """What a deed that has no object around it is, and a look at what it might change."""
    return function, tuple


def made(kind, method, look):
    """A method of a new object, and a look at the object."""
    thing = kind()
    return getattr(thing, method), lambda: look(thing)


def world():
    """A world of three hosts with something written and two frames on the way."""
    thing = World(3, ((0, 1), (1, 2)))
    thing.write(0, "a", 1)
    thing.tick(1)
    return thing


def look_at_world(thing):
    return [thing.state(number) for number in range(3)], thing.flight()


def client():
    thing = Client(5)
    thing.order("first")
    thing.take(cut(1, (5, 1, 0))[0])
    return thing


def counter():
    thing = Counter(Desk(host()))
    thing.take(3, cut(1, (3, 1, 1, 0))[0])
    return thing


def mirror():
    thing = Mirror()
    thing.take(("all", 7, (("z", (1,)),)))
    return thing


def trip():
    thing = Trip()
    thing.write(host(), "q", 1)
    return thing


def index():
    thing = Index()
    thing.follow((note("a", 0, 1, value="red fig"),))
    return thing


OBJECTS = {
    "Gatherer": (Gatherer, Gatherer.waiting), "Host": (host, Host.state), "World": (world, look_at_world),
    "Desk": (lambda: Desk(host()), lambda thing: thing.ask("keys")), "Log": (lambda: Log(host()), lambda thing: thing.since(None)),
    "Mirror": (mirror, lambda thing: (thing.edition, thing.table())), "Client": (client, Client.blocks),
    "Counter": (counter, Counter.state), "Trip": (trip, lambda thing: [thing.known(key) for key in "abq"]),
    "Index": (index, Index.words),
}
# What kinds of arguments each function and each method has.
FUNCTIONS = {
    "octets.write_count": ("count",), "octets.write_text": ("text",), "octets.write_value": ("value",),
    "octets.read_count": ("octets", "place"), "octets.read_text": ("text octets", "place"),
    "octets.read_value": ("text octets", "place"), "guard.guarded": ("some octets",), "guard.mended": ("block",),
    "pieces.cut": ("message serial", "message octets"), "pieces.piece_of": ("anything",), "prime.value_at": ("poly", "number"),
    "prime.by_roots": ("roots",), "prime.common": ("poly", "poly"), "prime.roots": ("poly",), "notes.name_of": ("note",),
    "notes.parts_of": ("name",), "notes.covers": ("note", "note"), "notes.read": ("store", "key"),
    "notes.written": ("store", "host number", "serial", "key", "value"), "notes.merged": ("store", "store"),
    "notes.differ": ("store", "store"), "finds.told": ("store", "index"), "finds.find": ("size", "tells", "store"),
    "lots.lot_names": ("store", "lot"), "lots.halves": ("lot",), "lots.find_lot": ("size", "tells", "store", "lot"),
    "messages.write_message": ("message",), "messages.read_message": ("message octets",), "scripts.write_script": ("steps",),
    "scripts.read_script": ("script",), "scripts.run": ("steps",), "keeping.keep": ("state",), "keeping.restore": ("blocks",),
    "keeping.risen": ("state",), "kinds.total": ("store", "thing"), "kinds.adding": ("store", "host number", "thing", "amount"),
    "kinds.putting": ("thing", "item"), "kinds.taking": ("thing", "item"), "kinds.items": ("store", "thing"),
    "rolls.roll_out": ("Host", "thing", "roll"), "rolls.rolls": ("store", "thing"), "rolls.sweep_up": ("Host", "thing"),
    "scans.page": ("store", "after", "many"), "deltas.delta": ("store", "store"), "deltas.with_deltas": ("store", "stores"),
    "deltas.deltas_of": ("stores",), "choices.chosen": ("store", "key", "manner"), "choices.doubtful": ("store",),
    "choices.settle_all": ("Host", "manner"),
}
CLASSES = {
    "Gatherer": {"__init__": (), "take": ("anything",), "waiting": ()},
    "Host": {"__init__": ("host number", "peers"), "store": (), "state": (), "read": ("key",), "write": ("key", "value"),
             "fall": (), "tick": (), "take": ("peer", "anything")},
    "World": {"__init__": ("hosts", "links"), "host": ("world host",), "write": ("world host", "key", "value"),
              "read": ("world host", "key"), "store": ("world host",), "state": ("world host",), "fall": ("world host",),
              "tick": ("world host",), "flight": (), "are_alike": (), "cut": ("world host", "other host"),
              "heal": ("world host", "other host"), "lose": ("frame",), "double": ("frame",),
              "spoil": ("frame", "at", "octet"), "deliver": ("frame",), "deliver_all": (), "settle": ("rounds",)},
    "Desk": {"__init__": ("desk host",), "ask": ("question",)},
    "Log": {"__init__": ("Host",), "mark": (), "since": ("anything",)},
    "Mirror": {"__init__": (), "take": ("answer",), "table": ()},
    "Client": {"__init__": ("client",), "order": ("words",), "blocks": (), "take": ("anything",)},
    "Counter": {"__init__": ("desk",), "take": ("client", "anything"), "state": (), "fall": ()},
    "Trip": {"__init__": (), "known": ("key",), "is_behind": ("Host", "key"), "read": ("Host", "key"),
             "write": ("Host", "key", "value"), "hand_on": ("Trip",)},
    "Index": {"__init__": (), "follow": ("store",), "keys_with": ("word",), "keys_with_all": ("some words",), "words": ()},
}


def deeds():
    """All functions, classes and methods of the interface: (name, what makes the deed and a look, kinds)."""
    found = []
    for name, kinds in FUNCTIONS.items():
        file, function = name.split(".")
        deed = getattr(importlib.import_module(f"meetstores.{file}"), function)
        found.append((name, lambda deed=deed: plain(deed), kinds))
    for file, kind in METHODS:
        whole = getattr(importlib.import_module(f"meetstores.{file}"), kind)
        for method, kinds in CLASSES[kind].items():
            if method == "__init__":
                found.append((kind, lambda whole=whole: plain(whole), kinds))
            else:
                found.append((f"{kind}.{method}", lambda kind=kind, method=method: made(OBJECTS[kind][0], method, OBJECTS[kind][1]),
                              kinds))
    return found


def good(kind):
    """A good value of a kind; a host is a new one, for it may be written."""
    return host() if kind == "Host" else KINDS[kind][1]


def is_plain(value):
    """Whether a value is made of tuples, integers, texts, booleans and None, so that nothing in it can be changed."""
    if type(value) is tuple:
        return all(is_plain(one) for one in value)
    return type(value) in PLAIN


class Arguments(unittest.TestCase):
    def refused(self, name, make, arguments, allowed):
        """Whether a deed is refused; with an error that is allowed, then, and nothing is changed."""
        deed, look = make()
        before, states = look(), [one.state() for one in arguments if isinstance(one, Host)]
        kept = copy.deepcopy([one for one in arguments if not isinstance(one, (Host, Trip, Desk))])
        try:
            deed(*arguments)
        except errors.StoreError as error:
            self.assertIn(type(error).__name__, allowed, name)
            self.assertEqual(look(), before)
            self.assertEqual([one.state() for one in arguments if isinstance(one, Host)], states)
            return True
        finally:
            self.assertEqual([one for one in arguments if not isinstance(one, (Host, Trip, Desk))], kept)
        return False

    def test_all_of_the_interface_is_here(self):
        self.assertEqual(set(FUNCTIONS), {f"{file}.{name}" for file in INTERFACE for name in INTERFACE[file]})
        self.assertEqual(set(CLASSES), {kind for _, kind in METHODS})
        for (_, kind), methods in METHODS.items():
            self.assertEqual({name: len(kinds) for name, kinds in CLASSES[kind].items()},
                             {name: len(parameters.split()) - 1 for name, parameters in methods.items()})

    def test_several_wrong_arguments_at_once(self):
        for name, make, kinds in deeds():
            for wrong in itertools.product((False, True), repeat=len(kinds)):
                named = [KINDS[kind][0] for kind, is_wrong in zip(kinds, wrong) if is_wrong and KINDS[kind][0]]
                if named:
                    choices = [KINDS[kind][2] if is_wrong and KINDS[kind][2] else (good(kind),)
                               for kind, is_wrong in zip(kinds, wrong)]
                    for arguments in itertools.islice(itertools.product(*choices), 150):
                        self.assertTrue(self.refused(name, make, arguments, named[:1]), name)

    def test_values_of_every_kind_at_each_place(self):
        for name, make, kinds in deeds():
            for place, kind in enumerate(kinds):
                allowed = (KINDS[kind][0],) + BESIDE.get(kind, ())
                many = 0
                for value in ODD:
                    arguments = [good(other) for other in kinds]
                    arguments[place] = value
                    many += self.refused(name, make, arguments, allowed)
                self.assertTrue(many > 50 or kind == "anything", (name, kind, many))

    def test_values_of_every_kind_at_all_places(self):
        for name, make, kinds in deeds():
            allowed = {error for kind in kinds for error in (KINDS[kind][0],) + BESIDE.get(kind, ())}
            for value in ODD:
                self.refused(name, make, [value] * len(kinds), allowed)

    def test_equal_arguments_have_equal_answers_that_nobody_can_change(self):
        for name, make, kinds in deeds():
            answers = [make()[0](*[good(kind) for kind in kinds]) for _ in range(2)]
            if name == "scripts.run":
                answers = [told for _, told in answers]
            if name not in CLASSES and name not in ("keeping.risen", "World.host"):
                self.assertEqual(answers[0], answers[1], name)
                self.assertTrue(is_plain(answers[0]), name)

    def test_errors_of_one_argument_with_a_world_around(self):
        # The arguments are wrong before the link, the serial or the octets are looked at.
        thing = world()
        for one, two in ((0, 3), (3, 3), (None, 0)):
            self.assertRaises(errors.BadHost, thing.cut, one, two)
        self.assertRaises(errors.NoLink, thing.cut, 0, 2)
        self.assertRaises(errors.BadKey, thing.write, 0, None, None)
        last = risen((0, (), 1, 2 ** 27 - 1, 0, ()))
        for thing, text, error in (("", None, errors.BadThing), ("t", None, errors.BadRoll), ("t", "", errors.BadSerial)):
            self.assertRaises(error, roll_out, last, thing, text)

    def test_signs(self):
        self.assertEqual(len(SIGNS), 77)
        self.assertEqual(SIGNS, "abcdefghijklmnopqrstuvwxyzABCDEFGHIJKLMNOPQRSTUVWXYZ0123456789 .,:;-_/+*()=?!")


if __name__ == "__main__":
    unittest.main()
