"""Clients that give orders over a bad line, and counters that have each one done once by a desk (point 29)."""

from meetstores.desk import Desk
from meetstores.errors import BadClient, BadDesk, BadText, Short, StoreError, Waiting, Wrong
from meetstores.octets import SIGNS, count_from, count_octets, is_between
from meetstores.pieces import Gatherer, cut

MOST_CLIENT = 1048575
MOST_WORDS = 200
MOST_ANSWER = 2000
# The signs that words have beyond SIGNS, in the order of their octets.
MORE_SIGNS = "'#"


def is_client(value):
    """Whether a value is the number of a client."""
    return is_between(value, 0, MOST_CLIENT)


def is_words(value):
    """Whether a value is the words of an order."""
    # strip leaves just what begins and ends with a sign of none of these: nothing, if all are good.
    return type(value) is str and len(value) <= MOST_WORDS and value.strip(SIGNS + MORE_SIGNS) == ""


def told_octets(client, serial, words):
    """The octets that tell an order's words, or its answer, as those of a client's serial."""
    signs = SIGNS + MORE_SIGNS
    head = count_octets(client) + count_octets(serial) + count_octets(len(words))
    return head + tuple([signs.index(sign) for sign in words])


def told_from(octets, most):
    """The triple (client, serial, words) that just some octets tell, of at most so many signs, or None."""
    try:
        client, at = count_from(octets, 0)
        serial, at = count_from(octets, at)
        many, at = count_from(octets, at)
    except (Short, Wrong):
        return None
    signs = SIGNS + MORE_SIGNS
    places = octets[at:]
    if many > most or len(places) != many or not all([place < len(signs) for place in places]):
        return None
    return client, serial, "".join([signs[place] for place in places])


def answer_to(desk, words):
    """What a desk answers to the words of an order, as it is sent back."""
    try:
        told = desk.ask(words)
    except StoreError:
        return "refused"
    return told if len(told) <= MOST_ANSWER else "too long"


class Client:
    """A client, which gives one order at a time."""

    def __init__(self, number):
        if not is_client(number):
            raise BadClient("not the number of a client")
        self._number = number
        self._serial = 0
        # The words of the order that waits, None if none does.
        self._words = None
        self._gatherer = Gatherer()

    def order(self, text):
        """Begin an order."""
        if not is_words(text):
            raise BadText("not the words of an order")
        if self._words is not None:
            raise Waiting("the order before has not been answered")
        self._serial += 1
        self._words = text

    def blocks(self):
        """The tuple of the blocks of the order that waits."""
        if self._words is None:
            return ()
        return cut(self._serial, told_octets(self._number, self._serial, self._words))

    def take(self, block):
        """Let a value come as a block; the answer, if by it the order that waits is answered, otherwise None."""
        whole = self._gatherer.take(block)
        told = told_from(whole[1], MOST_ANSWER) if whole is not None else None
        if self._words is None or told is None or told[:2] != (self._number, self._serial):
            return None
        self._words = None
        return told[2]


class Counter:
    """A counter before a Desk."""

    def __init__(self, desk):
        if not isinstance(desk, Desk):
            raise BadDesk("not a desk")
        self._desk = desk
        # By each client the serial of its last order that was done, and the answer.
        self._done = {}
        # By each client the pieces that have come.
        self._gatherers = {}

    def take(self, client, block):
        """Let a value come as a block of a client; the tuple of the blocks that are sent back."""
        if not is_client(client):
            raise BadClient("not the number of a client")
        if client not in self._gatherers:
            self._gatherers[client] = Gatherer()
        whole = self._gatherers[client].take(block)
        told = told_from(whole[1], MOST_WORDS) if whole is not None else None
        if told is None or told[0] != client:
            return ()
        return self._answer(client, told[1], told[2])

    def state(self):
        """The ascending tuple of (client, serial, answer) of the last orders that were done."""
        return tuple([(client,) + self._done[client] for client in sorted(self._done)])

    def fall(self):
        """Fall, and forget the pieces that have come."""
        self._gatherers = {}

    def _answer(self, client, serial, words):
        """Do an order if it is the next one of a client; the blocks of its answer, if it is the last one then."""
        last, answer = self._done.get(client, (0, ""))
        if serial == last + 1:
            answer = answer_to(self._desk, words)
            self._done[client] = (serial, answer)
        elif serial != last or client not in self._done:
            return ()
        return cut(serial, told_octets(client, serial, answer))
