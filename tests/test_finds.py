import unittest

from meetstores.errors import BadIndex, BadSize, BadStore, BadTells
from meetstores.finds import find, told
from meetstores.notes import merged, written
from samples import NO_PAST, ODD, PRIME, chance, note, number_told, some_names, store_of, tells_of

LAST_INDEX = 2 ** 20 - 1
BAD_STORES = (([], None), (None, None), ("", None), ({}, None), (0, None), ((1,), 0), ((note("a", 0, 0),), 0),
              ((note("a", 0, 1), note("a", 0, 2)), 1), ((note("a", 0, 1), note("a", 1, 1, {0: 1})), 1))


def some_indexes(many, source):
    return source.sample(range(LAST_INDEX + 1), many)


def is_difference(pair, size, tells, names):
    """Whether a pair is what find looks for, word by word."""
    more, less = pair
    new = [name for name in names if name not in less] + list(more)
    return (
        list(more) == sorted(set(more)) and list(less) == sorted(set(less)) and len(more) + len(less) <= len(tells)
        and all(0 < name < 2 ** 30 and name % 2 ** 27 and name not in names for name in more)
        and all(name in names for name in less) and len(new) == size
        and all(number_told(new, index) == number for index, number in tells)
    )


class Told(unittest.TestCase):
    def test_the_empty_store(self):
        for index in (0, 1, LAST_INDEX):
            self.assertEqual(told((), index), 1)

    def test_products(self):
        source = chance(23)
        self.assertEqual(told((note("a", 0, 1),), 0), 2 ** 30 - 1)
        self.assertEqual(told((note("a", 7, 2 ** 27 - 1),), 0), 1)
        self.assertEqual(told((note("a", 7, 2 ** 27 - 1),), LAST_INDEX), 2 ** 20)
        for many in (1, 2, 3, 10, 100):
            names = some_names(many, source)
            for index in (0, 1, LAST_INDEX, source.randrange(LAST_INDEX)):
                self.assertEqual(told(store_of(names), index), number_told(names, index))

    def test_keys_pasts_and_values_are_not_told(self):
        one = (note("a", 0, 3), note("b", 1, 9, {0: 3}, "fig"))
        two = (note("x", 1, 9), note("y", 0, 3, {4: 4}, 5))
        self.assertEqual(told(one, 5), told(two, 5))

    def test_refused(self):
        for index in (-1, LAST_INDEX + 1, 10 ** 5000, True, False, None, "0", (), [0], {}):
            with self.assertRaises(BadIndex):
                told((), index)
        for store, index in BAD_STORES:
            for at in (0, -1):
                with self.assertRaises(BadStore) as caught:
                    told(store, at)
                self.assertEqual(caught.exception.index, index)


class Find(unittest.TestCase):
    def check(self, more, less, same, indexes):
        """find must tell the difference of two stores that have the same names and some others each."""
        own, other = list(same) + list(less), list(same) + list(more)
        tells = tells_of(other, indexes)
        self.assertEqual(find(len(other), tells, store_of(own)), (tuple(sorted(more)), tuple(sorted(less))))

    def test_differences_of_each_kind(self):
        source = chance(24)
        for more, less, same in (
            (0, 0, 0), (0, 0, 5), (1, 0, 0), (0, 1, 0), (1, 1, 0), (5, 0, 7), (0, 5, 7), (3, 4, 9), (4, 3, 0),
            (40, 0, 3), (0, 40, 3), (20, 20, 0), (39, 1, 1), (1, 39, 1), (13, 26, 50), (26, 13, 50),
        ):
            names = some_names(more + less + same, source)
            parts = names[:more], names[more:more + less], names[more + less:]
            for many in sorted({more + less, min(40, more + less + 1), min(40, more + less + 2), 40}):
                with self.subTest(more=more, less=less, same=same, many=many):
                    self.check(*parts, some_indexes(many, source))

    def test_any_indexes(self):
        source = chance(25)
        names = some_names(20, source)
        for indexes in ((0, 1), (0, LAST_INDEX), (LAST_INDEX - 1, LAST_INDEX), (5, 999999), range(40),
                        range(0, LAST_INDEX, LAST_INDEX // 39), range(LAST_INDEX - 39, LAST_INDEX + 1),
                        [k * k for k in range(40)], [2 ** k for k in range(20)]):
            self.check(names[:1], names[1:2], names[2:], indexes)

    def test_names_at_the_ends(self):
        ends = [host * 2 ** 27 + serial for host in range(8) for serial in (1, 2, 2 ** 27 - 2, 2 ** 27 - 1)]
        self.check(ends[:16], ends[16:], (), range(32))
        self.check(ends[::2], ends[1::2], (77,), range(LAST_INDEX - 31, LAST_INDEX + 1))
        self.check(ends, (), (), range(1, 33))
        self.check((), ends, (), range(40))
        greatest = range(2 ** 30 - 40, 2 ** 30)
        for many in (1, 2, 39, 40):
            self.check(greatest[-many:], (), (5,), range(many))
            self.check((), greatest[-many:], (5,), range(many))

    def test_names_in_a_row(self):
        self.check(range(1, 21), range(21, 41), range(41, 61), range(40))
        self.check(range(2, 41, 2), range(1, 41, 2), (), range(0, 400, 10))

    def test_greater_stores(self):
        source = chance(26)
        names = some_names(3000, source)
        self.check(names[:20], names[20:40], names[40:], some_indexes(40, source))
        self.check(names[:3], names[3:4], names[4:], some_indexes(4, source))

    def test_stores_that_hosts_have(self):
        source = chance(27)
        one = two = ()
        for serial in range(1, 60):
            one = written(one, 0, serial, source.choice("abcdefgh"), serial)
            if serial == 40:
                two = merged(two, one)
            two = written(two, 5, serial, source.choice("efghijkl"), serial)
        own = {(row[1] << 27) + row[2] for row in two}
        others = {(row[1] << 27) + row[2] for row in one}
        tells = tuple((index, told(one, index)) for index in sorted(some_indexes(len(own ^ others), source)))
        self.assertEqual(find(len(one), tells, two), (tuple(sorted(others - own)), tuple(sorted(own - others))))

    def test_too_few(self):
        source = chance(28)
        for more, less in ((2, 0), (0, 2), (1, 2), (3, 3), (21, 20), (40, 1), (30, 30), (5, 0), (0, 7)):
            names = some_names(more + less + 5, source)
            own, other = names[more:], names[:more] + names[more + less:]
            for many in range(0, min(41, more + less)):
                tells = tells_of(other, some_indexes(many, source))
                pair = find(len(other), tells, store_of(own))
                # So few numbers may be those of a nearer store; with two more than that it is not to be thought of.
                if many <= 1 and pair is not None:
                    self.assertTrue(is_difference(pair, len(other), tells, own))
                else:
                    self.assertIsNone(pair)

    def test_one_number_may_be_that_of_a_nearer_store(self):
        # Two names are more, one number is heard: there is a single name that tells it too.
        own = (5, 6, 7)
        number = number_told(own, 9) * (2 ** 30 + 9 - 1234) % PRIME
        self.assertEqual(find(4, ((9, number),), store_of(own)), ((1234,), ()))
        number = number_told((5, 7), 9)
        self.assertEqual(find(2, ((9, number),), store_of(own)), ((), (6,)))
        self.assertIsNone(find(3, ((9, number),), store_of(own)))

    def test_numbers_of_no_names(self):
        own, at = (5, 6, 7), 2 ** 30 + 9
        for name in (0, 2 ** 27, 7 * 2 ** 27, 2 ** 30 - 2 ** 27, 2 ** 30, 2 ** 30 + 8, PRIME - 1, 2 ** 40, 6):
            number = number_told(own, 9) * (at - name) % PRIME
            self.assertIsNone(find(4, ((9, number),), store_of(own)))
        for name in (4, 8, 2 ** 27, 0, 2 ** 30):
            number = number_told(own, 9) * pow(at - name, -1, PRIME) % PRIME
            self.assertIsNone(find(2, ((9, number),), store_of(own)))

    def test_a_name_more_than_once(self):
        own = (5, 6, 7)
        for roots in ((9, 9), (5, 8), (8, 8, 9)):
            tells = tells_of(own + roots, range(6))
            self.assertIsNone(find(3 + len(roots), tells, store_of(own)))

    def test_no_tells(self):
        self.assertEqual(find(0, (), ()), ((), ()))
        self.assertEqual(find(2, (), store_of((3, 4))), ((), ()))
        for size in (0, 1, 3, 2 ** 20):
            self.assertIsNone(find(size, (), store_of((3, 4))))

    def test_the_own_store(self):
        source = chance(29)
        for many in (0, 1, 30):
            names = some_names(many, source)
            for heard in (0, 1, 2, 39, 40):
                self.check((), (), names, some_indexes(heard, source))

    def test_of_another_store(self):
        source = chance(30)
        names = some_names(100, source)
        for many in (2, 9, 40):
            tells = tells_of(names[:50], some_indexes(many, source))
            self.assertIsNone(find(50, tells, store_of(names[50:])))

    def test_a_number_changed(self):
        source = chance(31)
        names = some_names(20, source)
        own, other = names[:18], names[3:]
        for heard in (7, 8, 20):
            tells = tells_of(other, some_indexes(heard, source))
            for place in range(heard):
                for number in (1, tells[place][1] % (PRIME - 1) + 1, source.randrange(1, PRIME)):
                    changed = tells[:place] + ((tells[place][0], number),) + tells[place + 1:]
                    self.assertIsNone(find(len(other), changed, store_of(own)))
            self.assertEqual(find(len(other), tells, store_of(own)),
                             (tuple(sorted(names[18:])), tuple(sorted(names[:3]))))

    def test_another_size(self):
        source = chance(32)
        names = some_names(20, source)
        own, other = names[:18], names[3:]
        for heard in (5, 6, 20):
            tells = tells_of(other, some_indexes(heard, source))
            for size in (0, 1, 15, 16, 18, 19, 25, 40, 2 ** 20):
                self.assertIsNone(find(size, tells, store_of(own)))

    def test_numbers_at_random(self):
        source = chance(33)
        names = some_names(10, source)
        for heard in range(2, 41):
            for size in (0, 8, 9, 10, 11, 30):
                tells = tuple((index, source.randrange(1, PRIME)) for index in sorted(some_indexes(heard, source)))
                self.assertIsNone(find(size, tells, store_of(names)))

    def test_what_is_found_is_what_is_looked_for(self):
        source = chance(34)
        for _ in range(200):
            names = some_names(12, source)
            cut_at, end = source.randrange(13), source.randrange(13)
            own, other = names[:max(cut_at, 1)], names[min(cut_at, end):]
            heard = len(set(own) ^ set(other)) + source.randrange(2)
            tells = tells_of(other, some_indexes(heard, source))
            pair = find(len(other), tells, store_of(own))
            self.assertTrue(is_difference(pair, len(other), tells, own))


class Refused(unittest.TestCase):
    def test_sizes(self):
        for size in (-1, 2 ** 20 + 1, 10 ** 5000, True, False, None, "1", (), [1], {}):
            for tells in ((), [], ((0, 0),)):
                with self.assertRaises(BadSize):
                    find(size, tells, [])
        self.assertIsNone(find(2 ** 20, (), ()))

    def test_tells(self):
        good = ((0, 1), (1, PRIME - 1), (LAST_INDEX, 5))
        self.assertIsNone(find(9, good, ()))
        for index, tells in (
            (None, []), (None, None), (None, True), (None, 5), (None, ""), (None, {}), (None, [(0, 1)]),
            (None, tuple((k, 1) for k in range(41))), (None, (7,) * 41),
            (0, (5,)), (0, ((),)), (0, ((1,),)), (0, ((1, 2, 3),)), (0, ([1, 2],)), (0, (None,)), (0, ("ab",)),
            (0, ((-1, 1),)), (0, ((LAST_INDEX + 1, 1),)), (0, ((True, 1),)), (0, ((None, 1),)), (0, (("1", 1),)),
            (0, ((1, 0),)), (0, ((1, PRIME),)), (0, ((1, -1),)), (0, ((1, True),)), (0, ((1, None),)),
            (0, ((1, (1,)),)), (1, ((0, 1), (0, 1))), (1, ((5, 1), (4, 1))), (1, ((0, 1), (1, 0), 5)),
            (2, ((0, 1), (1, 1), (1, 2), (0, 0))), (39, tuple((k, 1) for k in range(39)) + ((38, 1),)),
            (3, good + ((LAST_INDEX, 5),)), (3, good + (None,)),
        ):
            with self.subTest(tells=tells):
                for store in ((), [], (1,)):
                    with self.assertRaises(BadTells) as caught:
                        find(0, tells, store)
                    self.assertEqual(caught.exception.index, index)

    def test_stores(self):
        for store, index in BAD_STORES:
            with self.assertRaises(BadStore) as caught:
                find(0, ((0, 1),), store)
            self.assertEqual(caught.exception.index, index)

    def test_nothing_else_is_raised(self):
        for value in ODD:
            for call, error in (
                (lambda: told(value, 0), BadStore), (lambda: told((), value), BadIndex),
                (lambda: find(value, (), ()), BadSize), (lambda: find(0, value, ()), BadTells),
                (lambda: find(0, (), value), BadStore),
            ):
                try:
                    call()
                except error:
                    pass


if __name__ == "__main__":
    unittest.main()
