import unittest

from histories import rows_of, stores_of
from meetstores.errors import BadCount, BadKey, BadStore
from meetstores.notes import merged, read, written
from meetstores.scans import page
from samples import ODD, chance, note


def pages(store, many):
    """All pages of a store, one behind another."""
    found, after = [], None
    while True:
        rows, after = page(store, after, many)
        found.append(rows)
        if after is None:
            return found


def store_of(many):
    return tuple(note(f"k{k:04}", k % 8, k // 8 + 1, value=k) for k in range(many))


class Pages(unittest.TestCase):
    def test_all_pages_together_are_the_store(self):
        stores = [store for seed in range(6) for store in stores_of(seed + 300)[::9]] + [store_of(250)]
        self.assertTrue(any(len(values) > 1 for store in stores for _, values in rows_of(store)))
        for store in stores:
            rows = rows_of(store)
            for many in (1, 2, 3, 7, 99, 100):
                found = pages(store, many)
                self.assertEqual(sum(found, ()), rows)
                self.assertEqual([len(one) for one in found[:-1]], [many] * (len(found) - 1))
                self.assertEqual(len(found), max(1, -(-len(rows) // many)))
            for key, values in rows:
                self.assertEqual(read(store, key), values)

    def test_keys_with_notes_of_all_hosts(self):
        store = tuple(note(f"k{k:03}", host, k + 1, value=host) for k in range(101) for host in range(8))
        for many in (1, 2, 99, 100):
            self.assertEqual(page(store, None, many),
                             (tuple((f"k{k:03}", tuple(range(8))) for k in range(many)), f"k{many - 1:03}"))
        self.assertEqual(page(store, "k000", 100)[0][-1], ("k100", tuple(range(8))))
        self.assertIsNone(page(store, "k000", 100)[1])

    def test_a_page_behind_a_key(self):
        store = written(written(written((), 0, 1, "a", 1), 0, 2, "c", None), 0, 3, "e", "x")
        a, c, e = ("a", (1,)), ("c", (None,)), ("e", ("x",))
        for after, rows in ((None, (a, c, e)), ("a", (c, e)), ("c", (e,)), ("e", ()), ("A", (a, c, e)), ("b", (c, e)), ("d", (e,)),
                            ("aa", (c, e)), ("f", ()), ("e ", ()), (" ", (a, c, e)), ("k" * 40, ())):
            for many in (1, 2, 3, 100):
                last = rows[many - 1][0] if len(rows) > many else None
                self.assertEqual(page(store, after, many), (rows[:many], last))

    def test_an_empty_store(self):
        for after in (None, "a"):
            self.assertEqual(page((), after, 5), ((), None))

    def test_the_last_page_may_be_full(self):
        for keys in (99, 100, 101, 200, 201):
            store = store_of(keys)
            rows, after = page(store, None, 100)
            self.assertEqual((len(rows), after), (min(keys, 100), "k0099" if keys > 100 else None))
            self.assertEqual(page(store, f"k{keys - 1:04}", 100), ((), None))

    def test_a_key_written_between_two_pages(self):
        source = chance(301)
        for _ in range(40):
            store = store_of(source.randrange(2, 30))
            many = source.randrange(1, 8)
            rows, after = page(store, None, many)
            key = f"k{source.randrange(40):04}" + source.choice(("", "x"))
            later = written(store, 0, 99, key, "new")
            self.assertEqual(rows, rows_of(store)[:many])
            while after is not None:
                more, after = page(later, after, many)
                rows += more
            seen = tuple(row for row in rows_of(later) if row[0] != key)
            self.assertEqual(tuple(row for row in rows if row[0] != key), seen)
            if key > f"k{many - 1:04}" and len(store) > many:
                self.assertEqual(rows, rows_of(later))

    def test_notes_side_by_side(self):
        store = merged(written((), 0, 1, "a", 5), written((), 6, 1, "a", None))
        self.assertEqual(page(store, None, 1), ((("a", (5, None)),), None))

    def test_refused(self):
        for store, index in ((None, None), ([], None), ((1,), 0), ((note("a", 0, 0),), 0),
                             ((note("b", 0, 1), note("a", 0, 2)), 1), (store_of(3) * 2, 3)):
            for after, many in ((None, 1), ("", 0)):
                with self.assertRaises(BadStore) as caught:
                    page(store, after, many)
                self.assertEqual(caught.exception.index, index)
        for after in ODD:
            if after is not None and (type(after) is not str or not 1 <= len(after) <= 40 or set(after) - set("a")):
                for many in (1, 0):
                    self.assertRaises(BadKey, page, store_of(3), after, many)
        for many in ODD + (101, -5):
            if type(many) is not int or not 1 <= many <= 100:
                for after in (None, "a"):
                    self.assertRaises(BadCount, page, store_of(3), after, many)


if __name__ == "__main__":
    unittest.main()
