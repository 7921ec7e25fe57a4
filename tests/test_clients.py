import unittest
from collections import Counter as Tally

from meetstores.clients import Client, Counter
from meetstores.desk import Desk
from meetstores.errors import BadClient, BadDesk, BadText, StoreError, Waiting
from meetstores.hosts import Host
from meetstores.keeping import risen
from meetstores.pieces import Gatherer, cut
from samples import ODD, chance, note, spoiled
from test_messages import counts

SIGNS = "abcdefghijklmnopqrstuvwxyzABCDEFGHIJKLMNOPQRSTUVWXYZ0123456789 .,:;-_/+*()=?!'#"
LAST = 1048575


def octets_of(number, serial, words):
    """The octets of an order, or of its answer, word by word as point 29 tells them."""
    return tuple(counts(number, serial, len(words)) + [SIGNS.index(sign) for sign in words])


def blocks_of(number, serial, words):
    return cut(serial, octets_of(number, serial, words))


def message_of(blocks):
    """The message of which some blocks are the pieces."""
    gatherer = Gatherer()
    found = [whole for whole in map(gatherer.take, blocks) if whole is not None]
    return found[0] if found else None


def give(taker, blocks):
    """What is answered while blocks come, one behind the other, but None and ()."""
    return [told for told in map(taker, blocks) if told is not None and told != ()]


def counter_at(host):
    counter = Counter(Desk(host))
    return counter, lambda number: lambda block: counter.take(number, block)


class Orders(unittest.TestCase):
    def test_an_order_there_and_back(self):
        host = Host(0, ())
        client, counter = Client(5), Counter(Desk(host))
        for serial, (line, answer) in enumerate((
                ("add 'visits' #2", "done"), ("total 'visits'", "2"), ("get 'x'", ""), ("nonsense", "refused"), ("", "refused"),
                ("set 'x' '" + "y" * 180 + "'", "done"), ("get 'x'", "'" + "y" * 180 + "'")), 1):
            self.assertEqual(client.blocks(), ())
            self.assertIsNone(client.order(line))
            blocks = client.blocks()
            self.assertEqual(blocks, blocks_of(5, serial, line))
            self.assertEqual(client.blocks(), blocks)
            for block in blocks[:-1]:
                self.assertEqual(counter.take(5, block), ())
            back = counter.take(5, blocks[-1])
            self.assertEqual(back, blocks_of(5, serial, answer))
            self.assertEqual(counter.state(), ((5, serial, answer),))
            for block in back[:-1]:
                self.assertIsNone(client.take(block))
                self.assertEqual(client.blocks(), blocks)
            self.assertEqual(client.take(back[-1]), answer)
            self.assertEqual(client.blocks(), ())
            self.assertIsNone(client.take(back[-1]))
        self.assertEqual(host.read("visits+0"), (2,))

    def test_numbers_words_and_serials(self):
        for number in (0, 1, 127, 128, LAST):
            client = Client(number)
            for serial, words in enumerate(("", SIGNS, "'" * 200, "#" * 200, " ", "a" * 199), 1):
                client.order(words)
                self.assertEqual(message_of(client.blocks()), (serial, octets_of(number, serial, words)))
                self.assertEqual(give(client.take, blocks_of(number, serial, SIGNS)), [SIGNS])
        self.assertEqual(octets_of(5, 300, "a'#!"), (5, 172, 2, 4, 0, 77, 78, 76))

    def test_many_orders_of_one_client(self):
        host = Host(0, ())
        client, (counter, taker) = Client(3), counter_at(host)
        for k in range(1, 200):
            client.order("add 't' #1")
            self.assertEqual(give(client.take, give(taker(3), client.blocks())[0]), ["done"])
            self.assertEqual(counter.state(), ((3, k, "done"),))
        self.assertEqual(host.read("t+0"), (199,))

    def test_answers_of_2000_signs_and_of_2001(self):
        for last, many in ((1, 1971), (29, 1999), (30, 2000), (31, 2001), (40, 2010)):
            host = Host(0, ())
            # 48 words of 40 signs and a space each, and one word more.
            for k in range(48):
                host.write(f"{k:02}" + "k" * 36, 1)
            host.write("z" * last, 1)
            answer = Desk(host).ask("keys")
            self.assertEqual(len(answer), many)
            sent = answer if many <= 2000 else "too long"
            client, (counter, taker) = Client(9), counter_at(host)
            client.order("keys")
            back = give(taker(9), client.blocks())[0]
            self.assertEqual(back, blocks_of(9, 1, sent))
            self.assertEqual(counter.state(), ((9, 1, sent),))
            self.assertEqual(give(client.take, back), [sent])

    def test_orders_that_the_desk_refuses(self):
        store = (note("t+0", 0, 1, value=2 ** 40),)
        for serial, lines in ((5, ("add 't' #1", "pick 't+0' 2", "get", "", "'", "#5", "write 0 'a' #5")),
                              (2 ** 27 - 1, ("set 'a' #5", "strike 't+0'", "add 't' #-1", "add 't' #1"))):
            host = risen((0, (), 1, serial, 1, store))
            before = host.state()
            client, (counter, taker) = Client(0), counter_at(host)
            for at, line in enumerate(lines, 1):
                client.order(line)
                self.assertEqual(give(client.take, give(taker(0), client.blocks())[0]), ["refused"])
                self.assertEqual(counter.state(), ((0, at, "refused"),))
            self.assertEqual(host.state(), before)
            # A refused order is done all the same: the next one is another one.
            client.order("count")
            self.assertEqual(give(client.take, give(taker(0), client.blocks())[0]), ["1"])

    def test_the_longest_order(self):
        client, (counter, taker) = Client(LAST), counter_at(Host(0, ()))
        line = "set '" + "k" * 40 + "' '" + "v" * 152 + "'"
        self.assertEqual(len(line), 200 + 1)
        self.assertRaises(BadText, client.order, line)
        client.order(line.replace("vv", "v", 1))
        self.assertEqual(give(client.take, give(taker(LAST), client.blocks())[0]), ["done"])
        self.assertEqual(counter.state(), ((LAST, 1, "done"),))


class WatchedDesk(Desk):
    """A desk that keeps what it was asked."""

    def __init__(self, host):
        super().__init__(host)
        self.asked = []

    def ask(self, text):
        self.asked.append(text)
        return super().ask(text)


class Line(unittest.TestCase):
    def test_lost_doubled_overtaken_and_spoiled(self):
        """Each order is done at most once, in order, and just once if it was answered."""
        kinds = Tally()
        for seed in range(12):
            source = chance(seed + 400)
            host = Host(0, ())
            desk = WatchedDesk(host)
            counter = Counter(desk)
            clients = {number: Client(number) for number in source.sample(range(LAST + 1), source.choice((1, 2, 5)))}
            orders, answered, flight = dict.fromkeys(clients, 0), dict.fromkeys(clients, 0), []
            for _ in range(700):
                number = source.choice(sorted(clients))
                client = clients[number]
                if client.blocks() == ():
                    orders[number] += 1
                    words = "set 'c" + str(number) + "' #" + str(orders[number]) + " " * source.choice((0, 0, 0, 90))
                    client.order(words)
                if source.random() < 0.5:
                    flight += [(True, number, block) for block in client.blocks()]
                if source.random() < 0.02:
                    counter.fall()
                    kinds["fall"] += 1
                for _ in range(source.randrange(8)):
                    if flight:
                        there, number, block = flight.pop(0 if source.random() < 0.7 else source.randrange(len(flight)))
                        deed = source.choice("lddss" + "c" * 12)
                        kinds[deed] += 1
                        if deed == "d":
                            flight.append((there, number, block))
                        if deed == "s":
                            block = spoiled(block, source.randrange(1, 7), source)
                        if deed != "l" and there:
                            flight += [(False, number, back) for back in counter.take(number, block)]
                        elif deed != "l":
                            answer = clients[number].take(block)
                            if answer is not None:
                                answered[number] += 1
                                self.assertEqual(answered[number], orders[number])
                                self.check(desk, counter, number, orders[number], answer)
            for number in clients:
                serials = [int(line.split()[2][1:]) for line in desk.asked if f"'c{number}'" in line]
                self.assertEqual(serials, list(range(1, len(serials) + 1)))
                self.assertIn(len(serials), (answered[number], answered[number] + 1))
                kinds["answered"] += answered[number]
            self.assertEqual(counter.state(), tuple(sorted(counter.state())))
            self.assertEqual(host.state()[3], len([1 for line in desk.asked if not line.endswith(" ")]))
        self.assertGreater(min(kinds.values()), 100)

    def check(self, desk, counter, number, serial, answer):
        lines = [line for line in desk.asked if f"'c{number}'" in line]
        self.assertEqual(len(lines), serial)
        # Words with needless spaces are refused.
        self.assertEqual(answer, "refused" if lines[-1].endswith(" ") else "done")
        self.assertIn((number, serial, answer), counter.state())

    def test_one_block_is_lost_and_comes_later(self):
        words = "set 'a' '" + "x" * 150 + "'"
        for late in range(5):
            host = Host(0, ())
            client, (counter, taker) = Client(7), counter_at(host)
            client.order(words)
            blocks = client.blocks()
            self.assertEqual(len(blocks), 5)
            self.assertEqual(give(taker(7), blocks[:late] + blocks[late + 1:]), [])
            self.assertEqual((counter.state(), host.state()[3]), ((), 0))
            back = counter.take(7, blocks[late])
            self.assertEqual(host.state()[3], 1)
            self.assertEqual(give(taker(7), blocks[::-1] + blocks[:3]), [back])
            self.assertEqual(host.state()[3], 1)
            self.assertEqual(give(client.take, back[::-1]), ["done"])

    def test_up_to_two_octets_spoiled(self):
        source = chance(401)
        host = Host(0, ())
        client, (counter, taker) = Client(7), counter_at(host)
        for many in (0, 1, 2) * 5:
            client.order("set 'a' '" + "x" * 150 + "'")
            back = give(taker(7), [spoiled(block, many, source) for block in client.blocks()])[0]
            self.assertEqual(give(client.take, [spoiled(block, many, source) for block in back]), ["done"])
        for many in (3, 4, 5, 6):
            client.order("count")
            worse = [spoiled(block, many, source) for block in client.blocks()]
            self.assertEqual(give(taker(7), worse), [])
            back = give(taker(7), client.blocks())[0]
            self.assertEqual(give(client.take, [spoiled(block, many, source) for block in back]), [])
            self.assertEqual(give(client.take, back), ["1"])
        self.assertEqual(counter.state(), ((7, 19, "1"),))

    def test_a_counter_that_falls_in_the_middle(self):
        host = Host(0, ())
        client, (counter, taker) = Client(7), counter_at(host)
        client.order("add 't' #1")
        self.assertEqual(give(client.take, give(taker(7), client.blocks())[0]), ["done"])
        client.order("set 'a' '" + "x" * 150 + "'")
        blocks = client.blocks()
        give(taker(7), blocks[1:])
        state = counter.state()
        self.assertIsNone(counter.fall())
        self.assertEqual(counter.state(), state)
        # The pieces are forgotten, so the one that lacked is not enough.
        self.assertEqual(counter.take(7, blocks[0]), ())
        back = give(taker(7), blocks[1:])[0]
        counter.fall()
        # What was done is kept: it is answered again and not done again.
        self.assertEqual(give(taker(7), blocks), [back])
        self.assertEqual((counter.state(), host.state()[3]), (((7, 2, "done"),), 2))
        self.assertEqual(give(client.take, back), ["done"])

    def test_several_clients(self):
        host = Host(0, ())
        counter, taker = counter_at(host)
        clients = [Client(number) for number in (9, 0, LAST, 300)]
        for client, line in zip(clients, ("set 'a' #1", "get 'a'", "nonsense", "count")):
            client.order(line)
        pieces = [[(number, block) for block in client.blocks()] for number, client in zip((9, 0, LAST, 300), clients)]
        back = [counter.take(number, block) for one in pieces for number, block in one]
        self.assertEqual(counter.state(), ((0, 1, "#1"), (9, 1, "done"), (300, 1, "1"), (LAST, 1, "refused")))
        # An answer of another client is none.
        for client, blocks in zip(clients, back[1:] + back[:1]):
            self.assertEqual(give(client.take, blocks), [])
        self.assertEqual([give(client.take, blocks) for client, blocks in zip(clients, back)],
                         [["done"], ["#1"], ["refused"], ["1"]])

    def test_pieces_of_several_clients_are_kept_apart(self):
        host = Host(0, ())
        counter, taker = counter_at(host)
        one, two = Client(1), Client(2)
        one.order("set 'a' '" + "x" * 50 + "'")
        two.order("set 'b' '" + "y" * 50 + "'")
        for first, second in zip(one.blocks()[:-1], two.blocks()[:-1]):
            self.assertEqual((counter.take(1, first), counter.take(2, second)), ((), ()))
        self.assertNotEqual(counter.take(2, two.blocks()[-1]), ())
        self.assertNotEqual(counter.take(1, one.blocks()[-1]), ())
        self.assertEqual((host.read("a"), host.read("b")), (("x" * 50,), ("y" * 50,)))

    def test_an_answer_is_kept_as_it_was(self):
        host = Host(0, ())
        client, (counter, taker) = Client(1), counter_at(host)
        client.order("count")
        back = give(taker(1), client.blocks())[0]
        host.write("a", 1)
        self.assertEqual(give(taker(1), client.blocks()), [back])
        self.assertEqual(counter.state(), ((1, 1, "0"),))

    def test_counters_before_one_desk(self):
        desk = Desk(Host(0, ()))
        one, two = Counter(desk), Counter(desk)
        give(lambda block: one.take(1, block), blocks_of(1, 1, "set 'a' #1"))
        self.assertEqual((one.state(), two.state()), (((1, 1, "done"),), ()))


class Refused(unittest.TestCase):
    def test_clients(self):
        for number in ODD + (LAST + 1, -1):
            if type(number) is not int or not 0 <= number <= LAST:
                self.assertRaises(BadClient, Client, number)
        counter = Counter(Desk(Host(0, ())))
        for number in ODD + (LAST + 1, -1):
            if type(number) is not int or not 0 <= number <= LAST:
                for block in ((), None, blocks_of(5, 1, "count")[0]):
                    self.assertRaises(BadClient, counter.take, number, block)
        self.assertEqual(counter.state(), ())

    def test_desks(self):
        host = Host(0, ())
        for value in ODD + (host, host.state(), Desk, Counter(Desk(host)), "desk"):
            self.assertRaises(BadDesk, Counter, value)

    def test_words(self):
        client = Client(5)
        bad = [value for value in ODD if type(value) is not str] + [
            "a" * 201, "'" * 201, "\n", "a\nb", "caf\u00e9", "\ud800", "\"", "\\", "[", "{", "~", "a\t", "&", "<"]
        for text in bad:
            self.assertRaises(BadText, client.order, text)
            self.assertEqual(client.blocks(), ())
        client.order("first")
        blocks = client.blocks()
        for text in bad:
            self.assertRaises(BadText, client.order, text)
        for text in ("first", "second", ""):
            self.assertRaises(Waiting, client.order, text)
        self.assertEqual(client.blocks(), blocks)
        # The serial of the next order is still that of the next one.
        give(client.take, blocks_of(5, 1, ""))
        client.order("second")
        self.assertEqual(client.blocks(), blocks_of(5, 2, "second"))

    def no_answers(self):
        """Octets that are none of an answer to the second order of the client 300."""
        good = octets_of(300, 2, "ok")
        long = octets_of(300, 2, "a" * 2001)
        return [(), good[:-1], good + (0,), good[:1], good[:2], good[:3], good[:4], octets_of(300, 1, "ok"), octets_of(300, 3, "ok"),
                octets_of(300, 0, "ok"), octets_of(301, 2, "ok"), octets_of(0, 2, "ok"), octets_of(2, 300, "ok"), long,
                good[:-1] + (79,), good[:-1] + (255,), (172, 130, 0) + good[2:], good[:2] + (130, 0) + good[3:],
                good[:3] + (130, 0) + good[4:], good[:3] + (3,) + good[4:], good[:3] + (1,) + good[4:], (2,) + good]

    def test_what_is_no_answer(self):
        client = Client(300)
        client.order("first")
        give(client.take, blocks_of(300, 1, "one"))
        client.order("second")
        blocks = client.blocks()
        for octets in self.no_answers():
            self.assertEqual(give(client.take, cut(2, octets)), [])
            self.assertEqual(client.blocks(), blocks)
        for value in ODD + (list(blocks[0]), blocks[0][:-1] + (256,)):
            self.assertIsNone(client.take(value))
        self.assertEqual(client.blocks(), blocks)
        self.assertEqual(give(client.take, cut(2, octets_of(300, 2, "a" * 2000))), ["a" * 2000])

    def test_no_order_waits(self):
        client = Client(300)
        for serial in (0, 1, 2):
            self.assertEqual(give(client.take, blocks_of(300, serial, "ok")), [])
        client.order("first")
        self.assertEqual(give(client.take, blocks_of(300, 1, "ok")), ["ok"])
        for serial in (0, 1, 2):
            self.assertEqual(give(client.take, blocks_of(300, serial, "ok")), [])
        # An elder answer is none to a later order.
        client.order("second")
        self.assertEqual(give(client.take, blocks_of(300, 1, "ok")), [])

    def test_what_is_no_order(self):
        host = Host(0, ())
        counter, taker = counter_at(host)
        give(taker(300), blocks_of(300, 1, "set 'a' #1"))
        states = counter.state(), host.state()
        wrong = self.no_answers() + [octets_of(300, 2, "a" * 201), octets_of(300, 2 ** 40, "ok")]
        for octets in wrong:
            if octets != octets_of(300, 1, "ok"):
                self.assertEqual(give(taker(300), cut(2, octets)), [])
                self.assertEqual((counter.state(), host.state()), states)
        for value in ODD + (list(cut(2, octets_of(300, 2, "ok"))[0]),):
            self.assertEqual(counter.take(300, value), ())
        for number in (0, 1, 299, 301, LAST):
            self.assertEqual(give(taker(number), blocks_of(300, 1, "count")), [])
        self.assertEqual((counter.state(), host.state()), states)
        self.assertEqual(give(taker(300), blocks_of(300, 2, "a" * 200)), [blocks_of(300, 2, "refused")])

    def test_serials_that_are_not_the_next_one(self):
        host = Host(0, ())
        counter, taker = counter_at(host)
        for serial in (0, 2, 3, 2 ** 40 - 1):
            self.assertEqual(give(taker(5), blocks_of(5, serial, "set 'a' #1")), [])
        self.assertEqual((counter.state(), host.state()[3]), ((), 0))
        for serial in (1, 2, 3):
            self.assertEqual(len(give(taker(5), blocks_of(5, serial, "set 'a' #1"))), 1)
        for serial in (0, 1, 2, 5):
            self.assertEqual(give(taker(5), blocks_of(5, serial, "set 'a' #1")), [])
        # The last one is answered again, whatever its words are.
        self.assertEqual(give(taker(5), blocks_of(5, 3, "nonsense")), [blocks_of(5, 3, "done")])
        self.assertEqual((counter.state(), host.state()[3]), (((5, 3, "done"),), 3))

    def test_all_errors_are_of_this_program(self):
        for error in (BadClient, BadDesk, BadText, Waiting):
            self.assertTrue(issubclass(error, StoreError))


if __name__ == "__main__":
    unittest.main()
