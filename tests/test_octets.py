import unittest

from meetstores.errors import BadCount, BadOctets, BadPlace, BadText, BadValue, Short, Wrong
from meetstores.octets import SIGNS, read_count, read_text, read_value, write_count, write_text, write_value
from samples import chance

LONG = tuple(range(128, 136))


def groups(number):
    """The octets of a count, reckoned from its figures in the system of 128."""
    figures = [number % 128]
    while number >= 128:
        number //= 128
        figures.append(number % 128)
    return tuple([figure + 128 for figure in figures[:-1]] + figures[-1:])


class Reads(unittest.TestCase):
    def wrong_at(self, place, read, octets, at=0):
        with self.assertRaises(Wrong) as caught:
            read(octets, at)
        self.assertEqual(caught.exception.place, place)


class Counts(Reads):
    def test_written(self):
        self.assertEqual(write_count(0), (0,))
        self.assertEqual(write_count(1), (1,))
        self.assertEqual(write_count(127), (127,))
        self.assertEqual(write_count(128), (128, 1))
        self.assertEqual(write_count(300), (172, 2))
        self.assertEqual(write_count(16383), (255, 127))
        self.assertEqual(write_count(16384), (128, 128, 1))
        self.assertEqual(write_count(2 ** 63 - 1), (255,) * 8 + (127,))

    def test_there_and_back(self):
        source = chance(1)
        numbers = [source.getrandbits(source.randrange(64)) for _ in range(300)]
        numbers += [2 ** k + d for k in range(63) for d in (-1, 0, 1)] + [2 ** 63 - 1]
        for number in numbers:
            octets = write_count(number)
            self.assertEqual(octets, groups(number))
            self.assertEqual(read_count(octets, 0), (number, len(octets)))
            self.assertEqual(read_count((200, 9) + octets + (5, 255), 2), (number, len(octets) + 2))

    def test_refused(self):
        for value in (2 ** 63, 2 ** 64, -1, True, False, None, "1", "", (), (1,), [1], {}, 10 ** 5000):
            with self.subTest(kind=value.__class__), self.assertRaises(BadCount):
                write_count(value)

    def test_short(self):
        for octets, at in (((), 0), ((128,), 0), ((5,), 1), ((5, 255), 1), (LONG, 0), (LONG, 7), (LONG, 8)):
            with self.subTest(octets=octets, at=at), self.assertRaises(Short):
                read_count(octets, at)

    def test_ninth_octet(self):
        self.wrong_at(8, read_count, LONG + (128,))
        self.wrong_at(8, read_count, LONG + (255, 1))
        self.wrong_at(10, read_count, (1, 2) + (255,) * 9, 2)
        self.assertEqual(read_count((128,) * 8 + (127,), 0), (127 << 56, 9))

    def test_needless_zero(self):
        self.wrong_at(1, read_count, (128, 0))
        self.wrong_at(1, read_count, (255, 0, 7))
        self.wrong_at(4, read_count, (7, 7, 129, 128, 0), 2)
        self.wrong_at(8, read_count, LONG + (0,))
        self.assertEqual(read_count((0, 0), 0), (0, 1))
        self.assertEqual(read_count((128, 128, 1), 0), (16384, 3))


class Arguments(Reads):
    def test_octets(self):
        for read in (read_count, read_text, read_value):
            for value in ([0], [], (256,), (-1,), (True,), (0, False), (None,), ("a",), "a", None, 0, {}, ((0,),)):
                with self.subTest(read=read.__name__, value=value), self.assertRaises(BadOctets):
                    read(value, 0)

    def test_place(self):
        for read in (read_count, read_text, read_value):
            for at in (-1, 3, 10 ** 5000, True, False, None, "0", (), [0]):
                with self.subTest(read=read.__name__), self.assertRaises(BadPlace):
                    read((0, 0), at)
            with self.assertRaises(Short):
                read((0, 0), 2)

    def test_octets_are_looked_at_first(self):
        for read in (read_count, read_text, read_value):
            with self.assertRaises(BadOctets):
                read([0], -1)
            with self.assertRaises(BadOctets):
                read((0, 256), 7)
            with self.assertRaises(BadPlace):
                read((128, 0), 3)

    def test_octets_of_any_length(self):
        self.assertEqual(read_count((255,) * 20000 + (5,), 20000), (5, 20001))


class Texts(Reads):
    def test_signs(self):
        self.assertEqual(len(SIGNS), 77)
        self.assertEqual(SIGNS[:26], "abcdefghijklmnopqrstuvwxyz")
        self.assertEqual(SIGNS[26:52], SIGNS[:26].upper())
        self.assertEqual(SIGNS[52:62], "0123456789")
        self.assertEqual(SIGNS[62:], " .,:;-_/+*()=?!")
        for place, sign in enumerate(SIGNS):
            self.assertEqual(write_text(sign), (1, place))
            self.assertEqual(read_text((1, place), 0), (sign, 2))

    def test_there_and_back(self):
        for text in ("", "a", SIGNS, "ab 1", " ", "z" * 127, "z" * 128, (SIGNS * 3)[:200]):
            octets = write_text(text)
            self.assertEqual(octets, groups(len(text)) + tuple(SIGNS.index(sign) for sign in text))
            self.assertEqual(read_text(octets, 0), (text, len(octets)))
            self.assertEqual(read_text((77,) + octets + (99,), 1), (text, len(octets) + 1))

    def test_refused(self):
        for value in ("a" * 201, "'", "#", "\n", "a\tb", "a\nb", "\u00e9", "\ud800", "[", None, True, 1, (), []):
            with self.subTest(ascii(value)[:9]), self.assertRaises(BadText):
                write_text(value)

    def test_too_many_signs(self):
        self.wrong_at(0, read_text, groups(201) + (0,) * 201)
        self.wrong_at(2, read_text, (9, 9) + groups(2 ** 63 - 1), 2)
        self.assertEqual(read_text(groups(200) + (0,) * 200, 0), ("a" * 200, 202))

    def test_no_sign(self):
        self.wrong_at(1, read_text, (1, 77))
        self.wrong_at(3, read_text, (3, 0, 1, 255))
        self.wrong_at(2, read_text, (3, 0, 77, 200))

    def test_faults_of_the_count(self):
        self.wrong_at(1, read_text, (129, 0))
        self.wrong_at(8, read_text, (255,) * 9)
        for octets in ((), (128,), (255, 255)):
            with self.assertRaises(Short):
                read_text(octets, 0)

    def test_the_first_fault_from_the_left(self):
        self.wrong_at(1, read_text, (5, 80))
        self.wrong_at(2, read_text, (3, 0, 77))
        self.wrong_at(0, read_text, groups(201) + (90,))
        for octets in ((1,), (3, 0, 0), (200,), (4, 76, 76, 76)):
            with self.subTest(octets), self.assertRaises(Short):
                read_text(octets, 0)


class Values(Reads):
    def test_written(self):
        self.assertEqual(write_value(None), (0,))
        self.assertEqual(write_value(0), (1, 0))
        self.assertEqual(write_value(-1), (1, 1))
        self.assertEqual(write_value(1), (1, 2))
        self.assertEqual(write_value(-3), (1, 5))
        self.assertEqual(write_value(""), (2, 0))
        self.assertEqual(write_value("b"), (2, 1, 1))
        self.assertEqual(write_value(2 ** 40), (1,) + groups(2 ** 41))
        self.assertEqual(write_value(-2 ** 40), (1,) + groups(2 ** 41 - 1))

    def test_there_and_back(self):
        source = chance(2)
        values = [None, 0, -1, 1, 63, 64, -64, -65, 2 ** 40, -2 ** 40, 2 ** 40 - 1, "", "a", SIGNS, "a" * 200]
        values += [source.randrange(-2 ** 40, 2 ** 40 + 1) for _ in range(200)]
        for value in values:
            octets = write_value(value)
            self.assertEqual(read_value(octets, 0), (value, len(octets)))
            self.assertEqual(read_value((255,) + octets + (0,), 1), (value, len(octets) + 1))

    def test_refused(self):
        for value in (2 ** 40 + 1, -2 ** 40 - 1, True, False, "a" * 201, "\u00e9", (), (1,), [], {}, 10 ** 5000):
            with self.subTest(kind=value.__class__), self.assertRaises(BadValue):
                write_value(value)

    def test_first_octet(self):
        self.wrong_at(0, read_value, (3,))
        self.wrong_at(0, read_value, (255, 128, 0))
        self.wrong_at(2, read_value, (0, 0, 128), 2)

    def test_integers_too_great_or_too_small(self):
        self.wrong_at(1, read_value, (1,) + groups(2 ** 41 + 2))
        self.wrong_at(1, read_value, (1,) + groups(2 ** 41 + 1))
        self.wrong_at(4, read_value, (0, 0, 0, 1) + groups(2 ** 63 - 1) + (7,), 3)

    def test_faults_of_what_is_in_it(self):
        self.wrong_at(2, read_value, (1, 128, 0))
        self.wrong_at(9, read_value, (1,) + (255,) * 9)
        self.wrong_at(1, read_value, (2,) + groups(201))
        self.wrong_at(2, read_value, (2, 1, 77))
        self.wrong_at(2, read_value, (2, 200, 0))
        for octets in ((), (1,), (2,), (1, 128), (2, 1), (2, 128), (2, 3, 0, 0)):
            with self.subTest(octets), self.assertRaises(Short):
                read_value(octets, 0)


if __name__ == "__main__":
    unittest.main()
