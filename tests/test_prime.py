import unittest

from meetstores.errors import BadPoly, BadRoots
from meetstores.prime import by_roots, common, roots, value_at
from samples import ODD, PRIME, chance, product_of, times

BAD_POLYS = (
    (0,), (1, 0), (PRIME,), (-1,), (1, True), (True,), (None,), ("1",), ((1,),), [1], [], "", "1", None, 1, True, {},
    (1,) * 62, (0,) * 61,
)


def some_numbers(many, source):
    return tuple(source.sample(range(PRIME), many))


def some_poly(many, source):
    """A polynomial of so many numbers."""
    return tuple(source.randrange(1, PRIME) for _ in range(many))


class ValueAt(unittest.TestCase):
    def test_values(self):
        source = chance(14)
        for many in (0, 1, 2, 5, 61):
            for _ in range(5):
                poly = some_poly(many, source)
                for place in (0, 1, 2, PRIME - 1, source.randrange(PRIME)):
                    value = sum(number * pow(place, k, PRIME) for k, number in enumerate(poly)) % PRIME
                    self.assertEqual(value_at(poly, place), value)
        self.assertEqual(value_at((), 5), 0)
        self.assertEqual(value_at((7,), PRIME - 1), 7)
        self.assertEqual(value_at((0, 0, 1), PRIME - 1), 1)

    def test_refused(self):
        for poly in BAD_POLYS:
            with self.assertRaises(BadPoly):
                value_at(poly, 1)
        for place in (-1, PRIME, True, False, None, "1", (), (1,), [1], {}, 10 ** 5000):
            with self.assertRaises(BadRoots):
                value_at((1,), place)
            with self.assertRaises(BadPoly):
                value_at((0,), place)


class ByRoots(unittest.TestCase):
    def test_polynomials(self):
        source = chance(15)
        for some in ((), (0,), (5,), (PRIME - 1,), (0, 0), (3, 3, 3), (0, 1, PRIME - 1), some_numbers(7, source),
                     some_numbers(60, source), (9,) * 60):
            poly = by_roots(some)
            self.assertEqual(poly, product_of(some))
            self.assertEqual((len(poly), poly[-1]), (len(some) + 1, 1))
            for root in some:
                self.assertEqual(value_at(poly, root), 0)
        self.assertEqual(by_roots(()), (1,))

    def test_refused(self):
        for value in ((1,) * 61, (PRIME,), (-1,), (True,), (1, None), ("a",), ((),), [1], [], "", None, 1, True, {}):
            with self.assertRaises(BadRoots):
                by_roots(value)


class Common(unittest.TestCase):
    def test_of_roots_in_common(self):
        source = chance(16)
        for one, two, three in ((0, 0, 0), (1, 1, 1), (5, 3, 0), (5, 3, 2), (0, 3, 4), (20, 25, 30), (0, 0, 60)):
            some = some_numbers(one + two + three, source)
            left, right, both = some[:one], some[one:one + two], some[one + two:]
            poly = times(product_of(left + both), (source.randrange(1, PRIME),))
            other = times(product_of(right + both), (source.randrange(1, PRIME),))
            self.assertEqual(common(poly, other), product_of(both))
            self.assertEqual(common(other, poly), product_of(both))

    def test_roots_that_are_alike(self):
        self.assertEqual(common(product_of((3, 3, 3, 5)), product_of((3, 3, 7))), product_of((3, 3)))
        self.assertEqual(common(product_of((3, 3)), product_of((3,))), product_of((3,)))

    def test_coprime(self):
        self.assertEqual(common(product_of((1, 2)), product_of((3, 4, 5))), (1,))
        self.assertEqual(common((5,), (7,)), (1,))
        self.assertEqual(common((5,), product_of((1, 2))), (1,))

    def test_no_roots_in_common_need_be_numbers(self):
        square = (1, 0, 1)  # z ** 2 + 1, which has no root
        self.assertEqual(common(times(square, (3, 1)), times(square, (4, 9))), square)

    def test_of_the_polynomial_0(self):
        self.assertEqual(common((), ()), ())
        for poly in ((5,), (1, 2), (4, 0, 2), product_of((0, 8, 9))):
            single = times(poly, (pow(poly[-1], -1, PRIME),))
            self.assertEqual(common(poly, ()), single)
            self.assertEqual(common((), poly), single)
            self.assertEqual(common(poly, poly), single)

    def test_refused(self):
        for poly in BAD_POLYS:
            for one, two in ((poly, (1,)), ((1,), poly), (poly, poly)):
                with self.assertRaises(BadPoly):
                    common(one, two)


class Roots(unittest.TestCase):
    def test_all_unlike(self):
        source = chance(17)
        for some in ((0,), (PRIME - 1,), (0, PRIME - 1), (0, 1, 2, PRIME - 2, PRIME - 1), tuple(range(30)),
                     tuple(range(PRIME - 9, PRIME)), some_numbers(1, source), some_numbers(2, source),
                     some_numbers(3, source), some_numbers(13, source), some_numbers(60, source),
                     tuple(range(1, 61)), (0,) + some_numbers(59, source)):
            self.assertEqual(roots(product_of(some)), tuple(sorted(some)))
            lead = source.randrange(2, PRIME)
            self.assertEqual(roots(times(product_of(some), (lead,))), tuple(sorted(some)))

    def test_all_pairs_of_small_numbers(self):
        for one in range(12):
            for two in range(one):
                self.assertEqual(roots(product_of((one, two))), (two, one))
                self.assertEqual(roots(product_of((PRIME - 1 - two, one))), (one, PRIME - 1 - two))

    def test_constants(self):
        for number in (1, 2, PRIME - 1):
            self.assertEqual(roots((number,)), ())

    def test_some_alike(self):
        for some in ((3, 3), (0, 0), (PRIME - 1,) * 2, (1, 2, 2), (0, 0, 5), (7,) * 60, tuple(range(59)) + (4,)):
            self.assertIsNone(roots(product_of(some)))

    def test_fewer_than_the_degree(self):
        square = (1, 0, 1)
        self.assertIsNone(roots(square))
        self.assertIsNone(roots(times(square, square)))
        self.assertIsNone(roots(times(square, (-5 % PRIME, 3))))
        self.assertIsNone(roots(times(square, product_of(tuple(range(58))))))
        source = chance(18)
        for _ in range(40):
            number = source.randrange(PRIME)
            square_root = pow(number, (PRIME + 1) // 4, PRIME)
            expected = None
            if number and square_root ** 2 % PRIME == number:
                expected = tuple(sorted((square_root, PRIME - square_root)))
            self.assertEqual(roots((-number % PRIME, 0, 1)), expected)

    def test_refused(self):
        for poly in BAD_POLYS + ((),):
            with self.assertRaises(BadPoly):
                roots(poly)


class OddValues(unittest.TestCase):
    def test_nothing_else_is_raised(self):
        for value in ODD:
            for call, error in (
                (lambda: value_at(value, 0), BadPoly), (lambda: value_at((1,), value), BadRoots),
                (lambda: by_roots(value), BadRoots), (lambda: common(value, ()), BadPoly),
                (lambda: common((), value), BadPoly), (lambda: roots(value), BadPoly),
            ):
                try:
                    call()
                except error:
                    pass


if __name__ == "__main__":
    unittest.main()
