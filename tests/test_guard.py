import unittest

from meetstores.errors import BadOctets
from meetstores.guard import CHECKS, LOGS, POWERS, guarded, mended, octet_product, octet_quotient
from samples import block_at, chance, octet_times, spoiled

LENGTHS = (1, 2, 3, 40, 48, 99, 100)


def some_octets(many, source):
    return tuple(source.randrange(256) for _ in range(many))


class Guarded(unittest.TestCase):
    def test_it_is_0_at_eight_places(self):
        source = chance(3)
        for many in LENGTHS:
            for octets in ((0,) * many, (255,) * many, some_octets(many, source), some_octets(many, source)):
                block = guarded(octets)
                self.assertEqual((len(block), block[:many]), (many + 8, octets))
                for place in (1, 2, 4, 8, 16, 32, 64, 128):
                    self.assertEqual(block_at(block, place), 0)

    def test_each_single_octet(self):
        for octet in range(256):
            block = guarded((octet,))
            self.assertEqual([block_at(block, 1 << k) for k in range(8)], [0] * 8)

    def test_refused(self):
        for value in ((), (0,) * 101, [1], (256,), (-1,), (True,), (1, None), ("a",), "a", None, 1, True, {}):
            with self.subTest(str(value)[:9]), self.assertRaises(BadOctets):
                guarded(value)

    def test_the_tables(self):
        power = 1
        for k in range(255):
            self.assertEqual((POWERS[k], LOGS[power]), (power, k))
            power = octet_times(power, 2)
        self.assertEqual((power, len(POWERS), len(LOGS), len(CHECKS)), (1, 255, 256, 256))

    def test_products_and_quotients(self):
        for one in range(256):
            for two in range(256):
                product = octet_times(one, two)
                self.assertEqual(octet_product(one, two), product)
                if two > 0:
                    self.assertEqual(octet_quotient(product, two), one)


class Mended(unittest.TestCase):
    def test_blocks_as_they_were(self):
        source = chance(4)
        for many in LENGTHS:
            octets = some_octets(many, source)
            self.assertEqual(mended(guarded(octets)), octets)

    def test_one_octet_changed_anywhere(self):
        source = chance(5)
        for many in (1, 5, 100):
            octets = some_octets(many, source)
            block = guarded(octets)
            for place in range(len(block)):
                for change in (1, 128, 255, source.randrange(1, 256)):
                    spoilt = block[:place] + (block[place] ^ change,) + block[place + 1:]
                    self.assertEqual(mended(spoilt), octets)

    def test_two_octets_changed_at_any_places(self):
        source = chance(6)
        for many in (1, 2, 7, 40):
            octets = some_octets(many, source)
            block = guarded(octets)
            for one in range(len(block)):
                for two in range(one):
                    spoilt = list(block)
                    spoilt[one] ^= source.randrange(1, 256)
                    spoilt[two] ^= source.randrange(1, 256)
                    self.assertEqual(mended(tuple(spoilt)), octets)
        octets = some_octets(100, source)
        for _ in range(300):
            self.assertEqual(mended(spoiled(guarded(octets), 2, source)), octets)

    def test_two_alike_changes(self):
        octets = tuple(range(20))
        block = guarded(octets)
        for change in (1, 77, 255):
            for one, two in ((0, 27), (3, 4), (20, 27), (19, 20)):
                spoilt = list(block)
                spoilt[one] ^= change
                spoilt[two] ^= change
                self.assertEqual(mended(tuple(spoilt)), octets)

    def test_three_to_six_octets_changed(self):
        source = chance(7)
        for many in (1, 2, 40, 60, 100):
            block = guarded(some_octets(many, source))
            for changes in (3, 4, 5, 6):
                for _ in range(60):
                    self.assertIsNone(mended(spoiled(block, changes, source)))

    def test_near_to_no_guarded_block(self):
        # Each block that is two or fewer changes away from a guarded one of its length is mended to that, all others
        # to none: so what is mended, guarded again, differs at no more than two places.
        source = chance(8)
        found = 0
        for _ in range(4000):
            block = spoiled(guarded(some_octets(2, source)), 9, source)
            octets = mended(block)
            if octets is not None:
                found += 1
                self.assertLessEqual(sum(a != b for a, b in zip(guarded(octets), block)), 2)
        self.assertLess(found, 400)

    def test_changes_behind_the_ends_are_none(self):
        # Guarded blocks of a greater length, cut: the one or two octets that would mend them are not in the block.
        for ahead in ((9,), (9, 4)):
            block = guarded(ahead + (0,) * 5)
            self.assertEqual(mended(block), ahead + (0,) * 5)
            self.assertIsNone(mended(block[len(ahead):]))
        self.assertIsNone(mended(guarded((7,) + (0,) * 90 + (1,))[1:-1] + (3,)))

    def test_changes_that_show_at_one_place_alone(self):
        # Polynomials of eight octets that are 0 at all of 1, 2 .. 128 but one: far from what one or two changes make.
        for skipped in range(8):
            change = (1,)
            for k in range(8):
                if k != skipped:
                    longer = change + (0,)
                    change = tuple(a ^ octet_times(b, 1 << k) for a, b in zip(longer, (0,) + change))
            for ahead in ((1,), (0,), (4, 5, 6)):
                block = guarded(ahead)
                spoilt = block[:-8] + tuple(a ^ b for a, b in zip(block[-8:], change))
                self.assertEqual([block_at(spoilt, 1 << k) > 0 for k in range(8)], [k == skipped for k in range(8)])
                self.assertIsNone(mended(spoilt))

    def test_refused(self):
        for value in ((0,) * 8, (0,) * 109, (), [0] * 9, (0,) * 8 + (256,), (0,) * 8 + (-1,), (0,) * 8 + (True,),
                      (0,) * 8 + (None,), "a" * 9, None, 9, True, {}):
            with self.subTest(str(value)[:40]), self.assertRaises(BadOctets):
                mended(value)
        self.assertEqual(mended((0,) * 9), (0,))
        self.assertEqual(mended((0,) * 108), (0,) * 100)


if __name__ == "__main__":
    unittest.main()
