import unittest

from meetstores.errors import BadAmount, BadHost, BadItem, BadStore, BadThing
from meetstores.kinds import adding, items, putting, taking, total
from meetstores.notes import read, written
from meetstores.worlds import World
from samples import ODD, chance, note

TOP = 2 ** 40
GOOD_THINGS = ("a", "x" * 20, " ", "visits", "Z 9.,:;-_*()=?!")
BAD_THINGS = tuple(value for value in ODD if value != "a") + (
    "x" * 21, "a+", "+", "/", "a/b", "a+b", "it's", "a\n", "\u00e9", ("a",), ["a"])
BAD_STORES = ((None, None), ([], None), ((1,), 0), ((note("a", 0, 0),), 0), ((note("b", 0, 1), note("a", 0, 2)), 1))


class Tallies(unittest.TestCase):
    def add(self, world, number, thing, amount):
        key, value = adding(world.store(number), number, thing, amount)
        world.write(number, key, value)

    def test_what_several_hosts_add(self):
        source = chance(110)
        for thing in GOOD_THINGS:
            world, added = World(4, ((0, 1), (1, 2), (2, 3))), [0] * 4
            for at in range(30):
                number = source.randrange(4)
                amount = source.choice((1, -1, 0, 5, -7, 1000, source.randrange(-TOP // 40, TOP // 40)))
                self.add(world, number, thing, amount)
                added[number] += amount
                if at == 15:
                    # Before the hosts are alike each one knows a part of it.
                    world.settle(2)
            world.fall(2)
            self.assertIsNotNone(world.settle(100))
            for number in range(4):
                self.assertEqual(total(world.store(number), thing), sum(added))
                self.assertEqual(read(world.store(0), f"{thing}+{number}"), (added[number],))
        self.assertEqual(total((), "a"), 0)

    def test_before_they_are_alike(self):
        world = World(2, ((0, 1),))
        self.add(world, 0, "a", 5)
        self.add(world, 1, "a", -7)
        self.assertEqual([total(world.store(number), "a") for number in (0, 1)], [5, -7])
        world.settle(9)
        self.assertEqual([total(world.store(number), "a") for number in (0, 1)], [-2, -2])

    def test_keys(self):
        for host in range(8):
            self.assertEqual(adding((), host, "visits", 3), (f"visits+{host}", 3))
        store = written(written(written((), 3, 1, "visits+3", 5), 3, 2, "visit+3", 50), 3, 3, "visits+33", 500)
        self.assertEqual(total(store, "visits"), 5)
        self.assertEqual(adding(store, 3, "visits", -2), ("visits+3", 3))
        self.assertEqual(adding(store, 4, "visits", -2), ("visits+4", -2))
        self.assertEqual(total(written((), 0, 1, "visits+8", 5), "visits"), 0)

    def test_the_sum_of_the_integers_of_a_key(self):
        store = (note("a+2", 0, 1, value=5), note("a+2", 1, 1, value="7"), note("a+2", 2, 1, value=-20),
                 note("a+2", 3, 1), note("a+7", 0, 2, value=100))
        self.assertEqual(total(store, "a"), 85)
        self.assertEqual(adding(store, 2, "a", 1), ("a+2", -14))
        self.assertEqual(adding(store, 0, "a", 1), ("a+0", 1))

    def test_the_greatest_and_the_least_part(self):
        for sign in (1, -1):
            self.assertEqual(adding((), 0, "a", sign * TOP), ("a+0", sign * TOP))
            store = (note("a+0", 0, 1, value=sign * (TOP - 1)), note("a+1", 1, 1, value=sign * TOP))
            self.assertEqual(adding(store, 0, "a", sign), ("a+0", sign * TOP))
            self.assertEqual(adding(store, 1, "a", -2 * sign * (TOP // 2)), ("a+1", 0))
            self.assertRaises(BadAmount, adding, store, 0, "a", 2 * sign)
            self.assertRaises(BadAmount, adding, store, 1, "a", sign)
            # A total is no part, and has no limit; nor have a key's values together.
            self.assertEqual(total(store, "a"), sign * (2 * TOP - 1))
            several = tuple(note("a+0", host, 1, value=sign * TOP) for host in range(3))
            self.assertEqual(total(several, "a"), 3 * sign * TOP)
            self.assertRaises(BadAmount, adding, several, 0, "a", -sign * TOP)
            self.assertEqual(adding(several[:2], 0, "a", -sign * TOP), ("a+0", sign * TOP))

    def test_refused(self):
        for thing in BAD_THINGS:
            self.assertRaises(BadThing, total, (), thing)
            self.assertRaises(BadThing, adding, (), 0, thing, None)
        for store, index in BAD_STORES:
            for deed in (lambda: total(store, None), lambda: adding(store, 9, None, None), lambda: items(store, None)):
                with self.assertRaises(BadStore) as caught:
                    deed()
                self.assertEqual(caught.exception.index, index)
        for host in ODD:
            if type(host) is not int or not 0 <= host <= 7:
                self.assertRaises(BadHost, adding, (), host, "", None)
        for amount in ODD + (TOP + 1, -TOP - 1):
            if type(amount) is not int or abs(amount) > TOP:
                self.assertRaises(BadAmount, adding, (), 0, "a", amount)


class Bags(unittest.TestCase):
    def test_in_and_out(self):
        world = World(3, ((0, 1), (1, 2)))
        for item in ("pen", "cup", "a/b", "x" * 18, " "):
            self.assertEqual(putting("bag", item), ("bag/" + item, 1))
            self.assertEqual(taking("bag", item), ("bag/" + item, None))
            world.write(0, *putting("bag", item))
        self.assertEqual(items(world.store(0), "bag"), (" ", "a/b", "cup", "pen", "x" * 18))
        world.write(0, *taking("bag", "cup"))
        self.assertEqual(items(world.store(0), "bag"), (" ", "a/b", "pen", "x" * 18))
        world.settle(20)
        self.assertEqual(items(world.store(2), "bag"), (" ", "a/b", "pen", "x" * 18))

    def test_what_is_put_in_beside_a_taking_stays(self):
        world = World(2, ((0, 1),))
        world.write(0, *putting("bag", "pen"))
        world.settle(9)
        world.write(0, *taking("bag", "pen"))
        world.write(1, *putting("bag", "pen"))
        self.assertEqual([items(world.store(number), "bag") for number in (0, 1)], [(), ("pen",)])
        world.settle(9)
        self.assertEqual([items(world.store(number), "bag") for number in (0, 1)], [("pen",)] * 2)
        world.write(0, *taking("bag", "pen"))
        world.settle(9)
        self.assertEqual([items(world.store(number), "bag") for number in (0, 1)], [()] * 2)

    def test_several_hosts(self):
        world = World(3, ((0, 1), (0, 2)))
        for number in range(3):
            world.write(number, *putting("bag", "pen"))
            world.write(number, *putting("bag", f"own{number}"))
        world.settle(30)
        for number in range(3):
            self.assertEqual(items(world.store(number), "bag"), ("own0", "own1", "own2", "pen"))

    def test_other_keys_are_no_items(self):
        store = ()
        for serial, key in enumerate(("bag", "bag+0", "bag/", "bags/x", "ba/g", "bag /y", "bag/q", "Bag/r"), 1):
            store = written(store, 0, serial, key, "it")
        self.assertEqual(items(store, "bag"), ("", "q"))
        self.assertEqual(items(store, "ba"), ("g",))
        self.assertEqual(items(store, "b"), ())
        self.assertEqual(items((), "bag"), ())

    def test_any_value_but_none_is_in(self):
        store = (note("bag/a", 0, 1), note("bag/a", 1, 1), note("bag/b", 0, 2), note("bag/b", 1, 2, value=0),
                 note("bag/c", 0, 3, value=""), note("bag/d", 0, 4, value=1), note("bag/d", 1, 4, value=1))
        self.assertEqual(items(store, "bag"), ("b", "c", "d"))

    def test_refused(self):
        for deed in (putting, taking):
            for thing in BAD_THINGS:
                self.assertRaises(BadThing, deed, thing, "")
            for item in ODD + ("x" * 19, "it's", "a\n", "\u00e9", ("a",)):
                if type(item) is not str or not 1 <= len(item) <= 18 or set(item) - set("a"):
                    self.assertRaises(BadItem, deed, "a", item)
            for thing in GOOD_THINGS:
                self.assertEqual(deed(thing, "+/")[0], thing + "/+/")
        for thing in BAD_THINGS:
            self.assertRaises(BadThing, items, (), thing)


if __name__ == "__main__":
    unittest.main()
