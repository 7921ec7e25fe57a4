import unittest

from meetstores.errors import BadLot, BadSize, BadStore, BadTells
from meetstores.lots import find_lot, halves, lot_names
from samples import ODD, chance, note, some_names, store_of, tells_of

GOOD_LOTS = ((0, 0), (1, 0), (1, 1), (2, 3), (20, 0), (20, 2 ** 20 - 1))
BAD_LOTS = tuple(value for value in ODD if value != (0, 0)) + (
    (0, 1), (0, -1), (1, 2), (1, -1), (-1, 0), (21, 0), (20, 2 ** 20), (True, 0), (1, True), (0, False), (False, 0),
    (None, 0), (0, None), ("0", 0), (0, "0"), [0, 0], (0, 0, 0), ((0, 0),), (10 ** 9, 0), (10 ** 5000, 0), (20, 10 ** 5000),
    ((), ()), ([], []), ({}, 0),
)


def of_lot(names, lot):
    return sorted(name for name in names if name % 2 ** lot[0] == lot[1])


def names_in_lot(many, lot, source):
    """So many names of a lot, all unlike."""
    names = set()
    while len(names) < many:
        name = source.randrange(2 ** 30) // 2 ** lot[0] * 2 ** lot[0] + lot[1]
        if name % 2 ** 27 and name < 2 ** 30:
            names.add(name)
    return source.sample(sorted(names), many)


class Lots(unittest.TestCase):
    def test_lot_names(self):
        source = chance(40)
        for many in (0, 1, 7, 300):
            names = some_names(many, source)
            store = store_of(names)
            self.assertEqual(lot_names(store, (0, 0)), tuple(sorted(names)))
            for level in range(21):
                rests = [source.randrange(2 ** level) for _ in range(5)] + [0, 2 ** level - 1]
                rests += [name % 2 ** level for name in names[:3]]
                for rest in rests:
                    self.assertEqual(lot_names(store, (level, rest)), tuple(of_lot(names, (level, rest))))

    def test_halves(self):
        self.assertEqual(halves((0, 0)), ((1, 0), (1, 1)))
        self.assertEqual(halves((19, 2 ** 19 - 1)), ((20, 2 ** 19 - 1), (20, 2 ** 20 - 1)))
        source = chance(41)
        names = some_names(400, source)
        for level in range(20):
            lot = (level, source.randrange(2 ** level))
            one, two = halves(lot)
            self.assertEqual((one, two), ((level + 1, lot[1]), (level + 1, lot[1] + 2 ** level)))
            self.assertEqual(sorted(of_lot(names, one) + of_lot(names, two)), of_lot(names, lot))

    def test_the_smallest_lot_has_no_halves(self):
        for rest in (0, 5, 2 ** 20 - 1):
            with self.assertRaises(BadLot):
                halves((20, rest))

    def test_refused(self):
        for lot in BAD_LOTS:
            with self.assertRaises(BadLot):
                halves(lot)
            with self.assertRaises(BadLot):
                lot_names((), lot)
            with self.assertRaises(BadLot):
                find_lot(0, (), (), lot)
        for lot in GOOD_LOTS:
            self.assertEqual(lot_names((), lot), ())
            self.assertEqual(find_lot(0, (), (), lot), ((), ()))

    def test_the_leftmost_error(self):
        wrong = (note("a", 0, 1), note("a", 0, 1))
        with self.assertRaises(BadStore) as caught:
            lot_names(wrong, (0, 1))
        self.assertEqual(caught.exception.index, 1)
        with self.assertRaises(BadSize):
            find_lot(2 ** 20 + 1, 0, 0, 0)
        with self.assertRaises(BadTells) as caught:
            find_lot(0, ((1, 1), (1, 1)), 0, 0)
        self.assertEqual(caught.exception.index, 1)
        with self.assertRaises(BadStore) as caught:
            find_lot(0, (), None, 0)
        self.assertIsNone(caught.exception.index)
        for size in (-1, True, None, "1", 2 ** 20 + 1):
            with self.assertRaises(BadSize):
                find_lot(size, (), (), (0, 0))
        for tells, index in ((None, None), ([], None), (((0, 0),), 0), (((0, 1), (0, 1)), 1),
                             (tuple((k, 1) for k in range(41)), None), (((2 ** 20, 1),), 0)):
            with self.assertRaises(BadTells) as caught:
                find_lot(0, tells, (), (0, 0))
            self.assertEqual(caught.exception.index, index)


class FindLot(unittest.TestCase):
    def check(self, lot, more, less, many_tells, source):
        """find_lot must tell the difference within a lot, whatever differs outside of it."""
        same = names_in_lot(more + less + 5, lot, source)
        more, less, same = same[:more], same[more:more + less], same[more + less:]
        outside = [name for name in some_names(40, source) if name % 2 ** lot[0] != lot[1]]
        own = store_of(set(same + less + outside))
        tells = tells_of(same + more, source.sample(range(2 ** 20), many_tells))
        return find_lot(len(same + more), tells, own, lot), (tuple(sorted(more)), tuple(sorted(less)))

    def test_enough_tells(self):
        source = chance(42)
        for level in (0, 1, 2, 5, 13, 20):
            for more, less in ((0, 0), (1, 0), (0, 1), (1, 1), (4, 3), (0, 9), (12, 12), (20, 20)):
                lot = (level, source.randrange(2 ** level))
                for many in sorted({more + less, min(40, more + less + 1), 40}):
                    with self.subTest(lot=lot, more=more, less=less, many=many):
                        found, expected = self.check(lot, more, less, many, source)
                        self.assertEqual(found, expected)

    def test_too_few_tells(self):
        source = chance(43)
        for level in (0, 3, 20):
            for more, less in ((1, 0), (0, 1), (3, 3), (6, 1)):
                for many in range(1, more + less):
                    lot = (level, source.randrange(2 ** level))
                    self.assertIsNone(self.check(lot, more, less, many, source)[0])

    def test_names_outside_of_the_lot_are_none(self):
        # The numbers tell a name that is not of the lot: within the lot there is no such pair.
        source = chance(44)
        inside = names_in_lot(5, (3, 6), source)
        for outside in names_in_lot(4, (3, 5), source) + names_in_lot(4, (2, 1), source):
            tells = tells_of(inside + [outside], (1, 2, 3))
            self.assertIsNone(find_lot(6, tells, store_of(inside), (3, 6)))
            self.assertEqual(find_lot(6, tells, store_of(inside), (0, 0)), ((outside,), ()))

    def test_a_name_of_the_store_outside_of_the_lot_is_not_told(self):
        names = (2, 3, 4, 6, 7)
        tells = tells_of((2, 4, 8), (0, 9))
        self.assertEqual(find_lot(3, tells, store_of(names), (1, 0)), ((8,), (6,)))
        self.assertIsNone(find_lot(4, tells, store_of(names), (1, 0)))

    def test_made_up_numbers(self):
        source = chance(45)
        names = some_names(30, source)
        for many in (1, 2, 3, 7):
            for size in range(8):
                tells = tuple((k, source.randrange(1, 2 ** 61 - 1)) for k in range(many))
                self.assertIsNone(find_lot(size, tells, store_of(names), (2, 1)))


if __name__ == "__main__":
    unittest.main()
