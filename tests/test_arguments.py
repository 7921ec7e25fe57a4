"""Several wrong arguments at once: the error of the leftmost one, and nothing changed."""

import itertools
import unittest

from meetstores import errors
from meetstores.finds import find, told
from meetstores.guard import guarded, mended
from meetstores.hosts import Host
from meetstores.keeping import keep, restore, risen
from meetstores.kinds import adding, items, putting, taking, total
from meetstores.lots import find_lot, halves, lot_names
from meetstores.messages import read_message, write_message
from meetstores.notes import covers, differ, merged, name_of, parts_of, read, written
from meetstores.octets import read_count, read_text, read_value, write_count, write_text, write_value
from meetstores.pieces import cut, piece_of
from meetstores.prime import by_roots, common, roots, value_at
from meetstores.rolls import roll_out, rolls, sweep_up
from meetstores.scripts import read_script, run, write_script
from meetstores.worlds import World
from samples import ODD, PRIME, note

NOTE = note("a", 0, 1, value="x")
STORE = (NOTE,)
LATER = STORE + (note("b", 1, 1),)
# By each kind of argument: the name of its error, a good value, and wrong values.
KINDS = {
    "octets": ("BadOctets", (5, 1), ([5], None, (256,), (True,), "a")),
    "some octets": ("BadOctets", (5, 1), ([5], None, (256,), (), (1,) * 101)),
    "block": ("BadOctets", (0,) * 9, (None, (0,) * 8, (0,) * 109, (256,) * 9)),
    "message octets": ("BadOctets", (3,), ((0,) * 4001, None, (True,))),
    "place": ("BadPlace", 0, (-1, 99, None, True)),
    "count": ("BadCount", 1, (-1, 2 ** 63, True, None)),
    "message serial": ("BadCount", 1, (-1, 2 ** 40, True, None)),
    "text": ("BadText", "a", ("'", 5, None, "a" * 201)),
    "value": ("BadValue", 5, ("'", True, (), 2 ** 40 + 1)),
    "poly": ("BadPoly", (1, 1), ((0,), None, (PRIME,), [1])),
    "number": ("BadRoots", 5, (PRIME, -1, None, True)),
    "roots": ("BadRoots", (5,), ((PRIME,), None, [5], (1,) * 61)),
    "key": ("BadKey", "a", ("", None, "a" * 41, "'")),
    "host number": ("BadHost", 0, (8, -1, None, True)),
    "serial": ("BadSerial", 2, (0, 2 ** 27, None, True)),
    "name": ("BadName", 1, (0, 2 ** 27, None, 2 ** 30)),
    "note": ("BadNote", NOTE, ((), None, note("a", 0, 0), list(NOTE))),
    "store": ("BadStore", STORE, ([], None, (1,), STORE * 2)),
    "index": ("BadIndex", 0, (-1, 2 ** 20, None, True)),
    "tells": ("BadTells", ((0, 1),), ([], None, ((0, 0),), ((1, 1), (0, 1)))),
    "size": ("BadSize", 1, (-1, 2 ** 20 + 1, None, True)),
    "lot": ("BadLot", (0, 0), ((0, 1), None, (21, 0), [0, 0])),
    "message": ("BadMessage", ("all",), (("all", 1), None, [], "all")),
    "peers": ("BadHosts", (1,), ((0,), (2, 1), None, [1])),
    "hosts": ("BadCount", 3, (1, 9, None, True)),
    "links": ("BadLinks", ((0, 1), (1, 2)), (((1, 0),), ((0, 1), (0, 1)), None, [(0, 1)])),
    "world host": ("BadHost", 0, (3, -1, None, True)),
    "other host": ("BadHost", 1, (3, -1, None, "1")),
    "frame": ("NoFrame", 0, (99, -1, None, True)),
    "at": ("BadCount", 0, (999, -1, None, True)),
    "octet": ("BadCount", 0, (256, -1, None, True)),
    "rounds": ("BadCount", 0, (1001, -1, None, True)),
    "steps": ("BadSteps", (("world", 2, ()),), ((), None, (("flush",),))),
    "script": ("NotText", "world 2", (5, None, ())),
    "state": ("BadState", (0, (), 1, 1, 1, ()), ((), None, (0, (0,), 1, 1, 1, ()))),
    "blocks": ("BadBlocks", keep((0, (), 1, 1, 1, ())), (None, [], ((1,),))),
    "thing": ("BadThing", "t", ("", None, "a+", "a/", "t" * 21)),
    "amount": ("BadAmount", 1, (None, True, 2 ** 40 + 1, "1")),
    "item": ("BadItem", "i", ("", None, "i" * 19, 1)),
    "Host": ("BadHost", Host(0, (1,)), (None, 0, (), "host", {})),
    "roll": ("BadRoll", "x", (None, 5, "'", "x" * 20001)),
    "peer": ("BadHost", 1, (0, 2, None, True, [1])),
    "anything": ("", 5, ODD[:20]),
}


def world():
    """A world of three hosts with something written and two frames on the way."""
    made = World(3, ((0, 1), (1, 2)))
    made.write(0, "a", 1)
    made.tick(1)
    return made


class Arguments(unittest.TestCase):
    def check(self, deed, *kinds, unchanged=None):
        """Of each choice of arguments that are wrong, the leftmost one's error is raised."""
        before = unchanged() if unchanged else None
        for wrong in itertools.product((False, True), repeat=len(kinds)):
            named = [KINDS[kind][0] for kind, is_wrong in zip(kinds, wrong) if is_wrong and KINDS[kind][0]]
            if named:
                choices = [KINDS[kind][2] if is_wrong else (KINDS[kind][1],) for kind, is_wrong in zip(kinds, wrong)]
                for arguments in itertools.islice(itertools.product(*choices), 300):
                    with self.assertRaises(errors.StoreError) as caught:
                        deed(*arguments)
                    self.assertIs(type(caught.exception), getattr(errors, named[0]))
        if unchanged:
            self.assertEqual(unchanged(), before)
        deed(*[KINDS[kind][1] for kind in kinds])

    def test_octets_guard_and_pieces(self):
        self.check(write_count, "count")
        self.check(write_text, "text")
        self.check(write_value, "value")
        self.check(read_count, "octets", "place")
        self.check(lambda octets, at: read_text(octets if octets != (5, 1) else (1, 1), at), "octets", "place")
        self.check(lambda octets, at: read_value(octets if octets != (5, 1) else (1, 1), at), "octets", "place")
        self.check(guarded, "some octets")
        self.check(mended, "block")
        self.check(cut, "message serial", "message octets")
        for value in ODD:
            self.assertIsNone(piece_of(value))

    def test_prime(self):
        self.check(value_at, "poly", "number")
        self.check(by_roots, "roots")
        self.check(common, "poly", "poly")
        self.check(roots, "poly")

    def test_notes_and_finds(self):
        self.check(name_of, "note")
        self.check(parts_of, "name")
        self.check(covers, "note", "note")
        self.check(read, "store", "key")
        self.check(written, "store", "host number", "serial", "key", "value")
        self.check(merged, "store", "store")
        self.check(differ, "store", "store")
        self.check(told, "store", "index")
        self.check(find, "size", "tells", "store")

    def test_lots_and_messages(self):
        self.check(lot_names, "store", "lot")
        self.check(halves, "lot")
        self.check(find_lot, "size", "tells", "store", "lot")
        self.check(write_message, "message")
        self.check(read_message, "message octets")

    def test_hosts(self):
        self.check(Host, "host number", "peers")
        host = Host(0, (1,))
        host.write("a", 1)
        self.check(host.read, "key", unchanged=host.state)
        self.check(host.write, "key", "value", unchanged=host.state)
        self.check(host.take, "peer", "anything", unchanged=host.state)

    def test_worlds(self):
        self.check(World, "hosts", "links")
        made = world()

        def unchanged():
            return [made.state(number) for number in range(3)], made.flight()

        for deed in (made.host, made.store, made.state, made.fall, made.tick):
            self.check(deed, "world host", unchanged=unchanged)
        self.check(made.read, "world host", "key", unchanged=unchanged)
        self.check(made.write, "world host", "key", "value", unchanged=unchanged)
        for deed in (made.cut, made.heal):
            self.check(deed, "world host", "other host", unchanged=unchanged)
        made = world()
        for deed in (made.double, made.deliver, made.lose):
            self.check(deed, "frame", unchanged=unchanged)
        made = world()
        self.check(made.spoil, "frame", "at", "octet", unchanged=unchanged)
        self.check(made.settle, "rounds", unchanged=unchanged)

    def test_scripts_and_keeping(self):
        self.check(write_script, "steps")
        self.check(read_script, "script")
        self.check(run, "steps")
        self.check(keep, "state")
        self.check(risen, "state")
        self.check(restore, "blocks")

    def test_kinds(self):
        self.check(total, "store", "thing")
        self.check(adding, "store", "host number", "thing", "amount")
        self.check(putting, "thing", "item")
        self.check(taking, "thing", "item")
        self.check(items, "store", "thing")

    def test_rolls(self):
        host = KINDS["Host"][1]
        self.check(roll_out, "Host", "thing", "roll", unchanged=host.state)
        self.check(rolls, "store", "thing")
        self.check(sweep_up, "Host", "thing", unchanged=host.state)

    def test_errors_of_one_argument_with_a_world_around(self):
        # The arguments are wrong before the link, the serial or the octets are looked at.
        made = world()
        for one, two in ((0, 3), (3, 3), (None, 0)):
            self.assertRaises(errors.BadHost, made.cut, one, two)
        self.assertRaises(errors.NoLink, made.cut, 0, 2)
        self.assertRaises(errors.BadKey, made.write, 0, None, None)
        last = risen((0, (), 1, 2 ** 27 - 1, 0, ()))
        for thing, text, error in (("", None, errors.BadThing), ("t", None, errors.BadRoll), ("t", "", errors.BadSerial)):
            self.assertRaises(error, roll_out, last, thing, text)

    def test_arguments_are_not_changed_and_answers_are_alike(self):
        for deed, arguments in ((merged, (STORE, LATER)), (lot_names, (LATER, (0, 0))), (items, (LATER, "a"))):
            self.assertEqual(deed(*arguments), deed(*arguments))


if __name__ == "__main__":
    unittest.main()
