import unittest
from collections import Counter

from histories import stores_of
from meetstores.deltas import delta, deltas_of, with_deltas
from meetstores.errors import BadStore
from meetstores.notes import covers, merged, written
from samples import ODD, chance, note


def looked(store, older):
    """The delta by a look at all pairs of notes."""
    return tuple(one for one in store if not any(
        covers(other, one) or (other[:2] == one[:2] and other[2] >= one[2]) for other in older))


class Deltas(unittest.TestCase):
    def test_pairs_of_stores_of_any_history(self):
        source, seen = chance(500), Counter()
        for seed in range(10):
            stores = stores_of(seed + 500, 3, 100)
            for _ in range(60):
                at, older = sorted((source.randrange(len(stores)), source.randrange(len(stores))))
                for one, other in ((stores[at], stores[older]), (stores[older], stores[at])):
                    found = delta(one, other)
                    self.assertEqual(found, looked(one, other))
                    both = merged(other, one)
                    self.assertEqual(merged(other, found), both)
                    self.assertEqual(with_deltas(other, (found,)), both)
                    # None of its notes can be left out.
                    for place in range(len(found)):
                        self.assertNotEqual(merged(other, found[:place] + found[place + 1:]), both)
                    seen[len(found) == 0, len(found) == len(one)] += 1
        self.assertEqual(len(seen), 4)

    def test_notes_of_one_key(self):
        cases = (
            (note("a", 0, 5), note("a", 0, 4), True), (note("a", 0, 5), note("a", 0, 5), False),
            (note("a", 0, 5), note("a", 0, 6), False), (note("a", 0, 5), note("a", 1, 6), True),
            (note("a", 0, 5), note("a", 1, 6, {0: 5}), False), (note("a", 0, 5), note("a", 1, 6, {0: 4}), True),
            (note("a", 0, 5), note("a", 1, 6, {0: 9}), False), (note("a", 0, 5), note("b", 1, 6, {0: 5}), True),
            (note("a", 0, 5), note("b", 0, 6), True), (note("a", 0, 5, {1: 6}), note("a", 1, 6), True),
            (note("a", 0, 5, value=1), note("a", 0, 5, {0: 4}, 2), False),
        )
        for one, older, is_new in cases:
            self.assertEqual(delta((one,), (older,)), (one,) if is_new else ())

    def test_in_the_order_of_the_store(self):
        store = (note("a", 0, 1), note("a", 3, 1), note("b", 0, 2), note("b", 1, 9), note("c", 0, 3))
        older = (note("a", 3, 1), note("b", 0, 1), note("b", 2, 1, {1: 9}))
        self.assertEqual(delta(store, older), (note("a", 0, 1), note("b", 0, 2), note("c", 0, 3)))
        self.assertEqual(delta(store, ()), store)
        self.assertEqual(delta((), store), ())
        self.assertEqual(delta(store, store), ())

    def test_great_stores(self):
        older = tuple(note(f"k{k:05}", 0, k + 1) for k in range(5000))
        store = written(written(older, 0, 9000, "k00077", 5), 1, 1, "new", 6)
        self.assertEqual(delta(store, older), (note("k00077", 0, 9000, {0: 78}, 5), note("new", 1, 1, value=6)))
        self.assertEqual(delta(older, store), ())


class Rows(unittest.TestCase):
    def test_there_and_back(self):
        source = chance(510)
        for seed in range(6):
            stores = stores_of(seed + 510, 3, 60)[:100]
            for rows in (stores, stores[::-1], source.sample(stores, min(9, len(stores))), stores[:1] * 3):
                deltas = deltas_of(tuple(rows))
                self.assertEqual(len(deltas), len(rows))
                before = ()
                for at, store in enumerate(rows):
                    self.assertEqual(deltas[at], delta(store, before))
                    before = merged(before, store)
                    self.assertEqual(with_deltas((), deltas[:at + 1]), before)
                self.assertEqual(with_deltas(stores[-1], deltas), merged(stores[-1], before))

    def test_a_host_whose_store_grows(self):
        stores, store = [], ()
        for serial in range(1, 101):
            store = written(store, 0, serial, f"k{serial % 7}", serial)
            stores.append(store)
        deltas = deltas_of(tuple(stores))
        self.assertEqual([len(one) for one in deltas], [1] * 100)
        for at in range(101):
            self.assertEqual(with_deltas((), deltas[:at]), stores[at - 1] if at else ())
        # Deltas that have come already do no harm, nor does their order.
        self.assertEqual(with_deltas(store, deltas), store)
        self.assertEqual(with_deltas((), deltas[::-1]), store)

    def test_made_up_stores_as_merged(self):
        # Two notes that cover each other: merged drops both.
        one, two = (note("a", 0, 5, {1: 7}),), (note("a", 1, 6, {0: 5}),)
        self.assertEqual(with_deltas(one, (two,)), merged(one, two))
        self.assertEqual(with_deltas(one, (two,)), ())
        self.assertEqual(with_deltas(one, (two, one)), one)
        self.assertEqual(deltas_of((one, two, one)), (one, (), one))

    def test_0_1_100_and_101_stores(self):
        store = (note("a", 0, 1),)
        self.assertEqual(deltas_of(()), ())
        self.assertEqual(with_deltas(store, ()), store)
        self.assertEqual(deltas_of((store,)), (store,))
        self.assertEqual(with_deltas((), (store,)), store)
        self.assertEqual(deltas_of((store,) * 100), (store,) + ((),) * 99)
        self.assertEqual(with_deltas((), (store,) * 100), store)
        for many in (101, 1000):
            for deed in (lambda: deltas_of((store,) * many), lambda: with_deltas(store, (store,) * many),
                         lambda: deltas_of((None,) * many)):
                with self.assertRaises(BadStore) as caught:
                    deed()
                self.assertIsNone(caught.exception.index)

    def test_refused(self):
        good = (note("a", 0, 1),)
        bad = ((None, None), ([], None), (5, None), ("a", None), ({}, None), ((1,), 0), (good + (1,), 1), ((note("a", 0, 0),), 0),
               ((note("b", 0, 1), note("a", 0, 2)), 1), (good * 2, 1), (good + (note("a", 1, 1, {0: 1}),), 1),
               (good + (note("b", 0, 2), note("c", 0, 3), ()), 3))
        for store, index in bad:
            for deed in (lambda: delta(store, None), lambda: delta(good, store), lambda: with_deltas(store, None),
                         lambda: with_deltas(good, (store,)), lambda: with_deltas(good, (good, (), store, (None,))),
                         lambda: deltas_of((store,)), lambda: deltas_of((good, good, store, (None, 1)))):
                with self.assertRaises(BadStore) as caught:
                    deed()
                self.assertEqual(caught.exception.index, index)
        for stores in ODD:
            if type(stores) is not tuple:
                for deed in (lambda: deltas_of(stores), lambda: with_deltas((), stores)):
                    with self.assertRaises(BadStore) as caught:
                        deed()
                    self.assertIsNone(caught.exception.index)
        for stores in ([good], [], good, {0: good}):
            self.assertRaises(BadStore, deltas_of, stores)
            self.assertRaises(BadStore, with_deltas, good, stores)


if __name__ == "__main__":
    unittest.main()
