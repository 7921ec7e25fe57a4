import unittest

from meetstores.errors import BadCount, BadOctets
from meetstores.guard import guarded
from meetstores.octets import write_count
from meetstores.pieces import Gatherer, cut, piece_of
from samples import ODD, chance, spoiled

LAST_SERIAL = 2 ** 40 - 1


def some_octets(many, source):
    return tuple(source.randrange(256) for _ in range(many))


def block(serial, index, total, octets):
    """The block of a piece, whether it can be one or not."""
    return guarded(write_count(serial) + (index, total) + octets)


class Cut(unittest.TestCase):
    def test_pieces_of_messages(self):
        source = chance(9)
        for many, total in ((0, 1), (1, 1), (39, 1), (40, 1), (41, 2), (80, 2), (200, 5), (201, 6), (4000, 100)):
            for serial in (0, 127, 128, LAST_SERIAL):
                message = some_octets(many, source)
                blocks = cut(serial, message)
                self.assertIs(type(blocks), tuple)
                self.assertEqual(len(blocks), total)
                for index, one in enumerate(blocks):
                    self.assertEqual(one, block(serial, index, total, message[40 * index:40 * index + 40]))

    def test_refused(self):
        for serial in (LAST_SERIAL + 1, -1, True, None, "1", (), [1], {}, 10 ** 5000):
            with self.assertRaises(BadCount):
                cut(serial, ())
        for message in ((0,) * 4001, [0], (256,), (-1,), (False,), ("a",), "a", None, 1, {}):
            with self.assertRaises(BadOctets):
                cut(0, message)
        with self.assertRaises(BadCount):
            cut(LAST_SERIAL + 1, (0,) * 4001)


class PieceOf(unittest.TestCase):
    def test_blocks_as_they_are_cut(self):
        source = chance(10)
        for many in (0, 1, 39, 40, 41, 200, 4000):
            for serial in (0, 300, LAST_SERIAL):
                message = some_octets(many, source)
                blocks = cut(serial, message)
                for index, one in enumerate(blocks):
                    piece = (serial, index, len(blocks), message[40 * index:40 * index + 40])
                    self.assertEqual(piece_of(one), piece)
                    self.assertEqual(piece_of(spoiled(one, 1, source)), piece)
                    self.assertEqual(piece_of(spoiled(one, 2, source)), piece)

    def test_three_to_six_changes(self):
        source = chance(11)
        for one in cut(5, some_octets(100, source)) + cut(0, ()):
            for changes in (3, 4, 5, 6):
                for _ in range(30):
                    self.assertIsNone(piece_of(spoiled(one, changes, source)))

    def test_pieces_of_no_message(self):
        full = (3,) * 40
        for index, total, octets in (
            (0, 0, ()), (1, 1, ()), (1, 1, full), (2, 1, full), (5, 0, full), (255, 255, full),  # no such index
            (0, 101, full), (100, 101, full), (7, 255, full),  # too many pieces
            (0, 2, ()), (0, 2, full[:39]), (0, 2, full + (3,)), (3, 5, (3,)), (98, 100, full[1:]),  # in the middle
            (1, 2, ()), (99, 100, ()), (1, 2, full + (3,)), (0, 1, full + (3,)),  # the last one
        ):
            with self.subTest(index=index, total=total, many=len(octets)):
                self.assertIsNone(piece_of(block(5, index, total, octets)))

    def test_pieces_of_some_message(self):
        full = (3,) * 40
        for index, total, octets in (
            (0, 1, ()), (0, 1, (3,)), (0, 1, full), (0, 2, full), (1, 2, (3,)), (1, 2, full), (99, 100, (3,)),
            (99, 100, full), (98, 100, full), (0, 100, full),
        ):
            with self.subTest(index=index, total=total, many=len(octets)):
                self.assertEqual(piece_of(block(5, index, total, octets)), (5, index, total, octets))

    def test_serials(self):
        self.assertEqual(piece_of(block(LAST_SERIAL, 0, 1, ())), (LAST_SERIAL, 0, 1, ()))
        self.assertIsNone(piece_of(block(LAST_SERIAL + 1, 0, 1, ())))
        self.assertIsNone(piece_of(block(2 ** 63 - 1, 0, 1, (1, 2))))
        self.assertIsNone(piece_of(guarded((133, 0, 0, 1))))
        self.assertIsNone(piece_of(guarded((255,) * 9 + (1, 0, 1))))
        self.assertEqual(piece_of(guarded((5, 0, 1))), (5, 0, 1, ()))

    def test_octets_that_end_too_early(self):
        for octets in ((5,), (5, 0), (133,), (255,) * 8, (133, 1), (133, 1, 0)):
            with self.subTest(octets):
                self.assertIsNone(piece_of(guarded(octets)))

    def test_values_that_are_no_blocks(self):
        for value in ODD + ((0,) * 8, (0,) * 109, list(cut(1, (1,))[0]), cut(1, (1,)), cut(1, ())[0] + (256,)):
            self.assertIsNone(piece_of(value))


class Gathering(unittest.TestCase):
    def setUp(self):
        self.gatherer = Gatherer()

    def take(self, *blocks):
        return [self.gatherer.take(one) for one in blocks]

    def test_in_any_order(self):
        source = chance(12)
        for many in (0, 1, 40, 41, 333, 4000):
            message = some_octets(many, source)
            blocks = list(cut(many, message))
            source.shuffle(blocks)
            answers = self.take(*blocks)
            self.assertEqual(answers, [None] * (len(blocks) - 1) + [(many, message)])
            self.assertEqual(self.gatherer.waiting(), ())

    def test_waiting_at_each_step(self):
        blocks = cut(7, tuple(range(100)))
        other = cut(3, (9,) * 41)
        self.assertEqual(self.gatherer.waiting(), ())
        self.take(blocks[2])
        self.assertEqual(self.gatherer.waiting(), ((7, 3, (2,)),))
        self.take(other[1])
        self.assertEqual(self.gatherer.waiting(), ((3, 2, (1,)), (7, 3, (2,))))
        self.take(blocks[0])
        self.assertEqual(self.gatherer.waiting(), ((3, 2, (1,)), (7, 3, (0, 2))))
        self.assertEqual(self.take(other[0]), [(3, (9,) * 41)])
        self.assertEqual(self.gatherer.waiting(), ((7, 3, (0, 2)),))
        self.assertEqual(self.take(blocks[1]), [(7, tuple(range(100)))])
        self.assertEqual(self.gatherer.waiting(), ())

    def test_doubled_and_lost(self):
        blocks = cut(1, tuple(range(120)))
        self.assertEqual(self.take(blocks[0], blocks[0], blocks[1], blocks[0]), [None] * 4)
        self.assertEqual(self.gatherer.waiting(), ((1, 3, (0, 1)),))
        self.assertEqual(self.take(blocks[2]), [(1, tuple(range(120)))])
        # What comes again behind the whole message begins it anew.
        self.assertEqual(self.take(blocks[2]), [None])
        self.assertEqual(self.gatherer.waiting(), ((1, 3, (2,)),))
        self.assertEqual(self.take(*cut(2, ())), [(2, ())])
        self.assertEqual(self.take(*cut(2, ())), [(2, ())])

    def test_spoiled(self):
        source = chance(13)
        blocks = cut(1, tuple(range(120)))
        self.take(spoiled(blocks[0], 2, source), spoiled(blocks[1], 3, source), spoiled(blocks[2], 1, source))
        self.assertEqual(self.gatherer.waiting(), ((1, 3, (0, 2)),))
        self.assertEqual(self.take(blocks[1]), [(1, tuple(range(120)))])

    def test_values_that_are_no_pieces(self):
        self.take(cut(1, (0,) * 50)[0])
        self.assertEqual(self.take(*ODD), [None] * len(ODD))
        self.assertEqual(self.gatherer.waiting(), ((1, 2, (0,)),))

    def test_another_total(self):
        short, long = cut(1, (1,) * 80), cut(1, (2,) * 120)
        self.assertEqual(self.take(short[0], long[0], long[1], long[2]), [None] * 4)
        self.assertEqual(self.gatherer.waiting(), ((1, 2, (0,)),))
        self.assertEqual(self.take(*cut(1, (4,))), [None])
        self.assertEqual(self.take(short[1]), [(1, (1,) * 80)])
        self.assertEqual(self.take(*long), [None, None, (1, (2,) * 120)])

    def test_an_index_that_is_kept(self):
        one, two = cut(1, (1,) * 80), cut(1, (2,) * 80)
        self.assertEqual(self.take(one[0], two[0], two[0], one[1]), [None, None, None, (1, (2,) * 40 + (1,) * 40)])

    def begin(self, *serials):
        self.take(*[cut(serial, (serial,) * 50)[0] for serial in serials])

    def serials(self):
        return [row[0] for row in self.gatherer.waiting()]

    def test_the_ninth_message_makes_an_elder_one_forgotten(self):
        self.begin(10, 20, 30, 40, 50, 60, 70, 80)
        self.assertEqual(self.serials(), [10, 20, 30, 40, 50, 60, 70, 80])
        self.begin(15)
        self.assertEqual(self.serials(), [15, 20, 30, 40, 50, 60, 70, 80])
        self.begin(90)
        self.assertEqual(self.serials(), [20, 30, 40, 50, 60, 70, 80, 90])
        self.assertEqual(self.take(cut(20, (20,) * 50)[1]), [(20, (20,) * 50)])
        self.begin(5)
        self.assertEqual(self.serials(), [5, 30, 40, 50, 60, 70, 80, 90])

    def test_the_ninth_message_is_forgotten_itself(self):
        self.begin(10, 20, 30, 40, 50, 60, 70, 80, 9)
        self.assertEqual(self.serials(), [10, 20, 30, 40, 50, 60, 70, 80])
        self.assertEqual(self.take(cut(9, (9,) * 50)[1]), [None])
        self.assertEqual(self.serials(), [10, 20, 30, 40, 50, 60, 70, 80])

    def test_more_pieces_of_eight_messages(self):
        self.begin(10, 20, 30, 40, 50, 60, 70, 80)
        self.take(cut(80, (1,) * 120)[0], cut(10, (10,) * 50)[0])
        self.assertEqual(self.serials(), [10, 20, 30, 40, 50, 60, 70, 80])
        self.assertEqual(self.gatherer.waiting()[7], (80, 2, (0,)))

    def test_a_message_whole_by_one_piece_while_eight_wait(self):
        self.begin(10, 20, 30, 40, 50, 60, 70, 80)
        for serial in (9, 15, 99):
            self.assertEqual(self.take(*cut(serial, (1, 2))), [(serial, (1, 2))])
        self.assertEqual(self.serials(), [10, 20, 30, 40, 50, 60, 70, 80])
        self.assertEqual(self.take(cut(10, (10,) * 50)[1]), [(10, (10,) * 50)])

    def test_gatherers_are_apart(self):
        blocks = cut(1, (0,) * 50)
        other = Gatherer()
        self.take(blocks[0])
        self.assertIsNone(other.take(blocks[1]))
        self.assertEqual((self.gatherer.waiting(), other.waiting()), (((1, 2, (0,)),), ((1, 2, (1,)),)))


if __name__ == "__main__":
    unittest.main()
