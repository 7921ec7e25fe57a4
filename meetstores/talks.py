"""A host's talk with one peer: what it has heard, what it wants, what it tells (points 14 to 16)."""

from meetstores.lots import MOST_LEVEL, WHOLE, halves_of, is_within
from meetstores.messages import MOST_ASKED, message_octets, messages_of_notes
from meetstores.pieces import Gatherer

MOST_HEARD = 24
MOST_LOTS_TOLD = 64
MOST_GAP = 16
INDEXES = 1048576
# All notes are sent too behind the last one of so many indexes.
INDEXES_WITHOUT_NOTES = 64
SAME = ((), ())


def everything(telling):
    """The messages that tell a peer to send all its notes, and that send it all one's own."""
    return [message_octets(("all",))] + messages_of_notes(telling.notes)


class Heard:
    """What has been heard of one lot, of one edition: the size, and the numbers by their indexes."""

    def __init__(self, size):
        self.size = size
        self.numbers = {}
        # The last difference that was found, and the own edition for which; None if it holds no more.
        self._found = None
        self._found_for = None

    def put(self, index, number):
        """Keep a number for its index, if there is room."""
        if len(self.numbers) < MOST_HEARD:
            self.numbers[index] = number
            self._found_for = None

    def is_full(self):
        """Whether as many numbers are kept as may be."""
        return len(self.numbers) == MOST_HEARD

    def pair(self, lot, telling):
        """The pair of the lot's difference between the peer's store and the own one as it is now, or None."""
        if self._found_for != telling.edition:
            tells = tuple([(index, self.numbers[index]) for index in sorted(self.numbers)])
            self._found = telling.pair(lot, self.size, tells)
            self._found_for = telling.edition
        return self._found


class Talk:
    """A host's talk with one peer. What it answers are the octets of messages, in a list."""

    def __init__(self):
        self.gatherer = Gatherer()
        self.edition = None
        self.heard = {}
        self.wanted = ()
        self.even = False
        self.lots = [WHOLE]
        self.index = 0
        self.wait = 1
        self.gap = 1

    def hurry(self):
        """Hold the peer to be even no more, and tell it more at the next tick."""
        self.even = False
        self.gap = 1
        self.wait = 1

    def due(self, telling):
        """The messages that are due by one tick."""
        self.wait -= 1
        if self.wait > 0:
            return []
        self.gap = min(2 * self.gap, MOST_GAP) if self.even else 1
        self.wait = self.gap
        index = self.index
        messages = []
        for lot in self.lots:
            many, number = len(telling.names(lot)), telling.number(lot, index)
            messages.append(message_octets(("number", telling.edition, lot, many, index, number)))
        if index % INDEXES_WITHOUT_NOTES == INDEXES_WITHOUT_NOTES - 1:
            messages.extend(messages_of_notes(telling.notes))
        self.index = (index + 1) % INDEXES
        return messages

    def hear(self, parts, telling):
        """Hear a number, given by what belongs to its word, and answer it."""
        edition, lot, size, index, number = parts
        self._keep(edition, lot, size, index, number)
        if lot not in self.heard:
            return []
        found = self.heard[lot].pair(lot, telling)
        if found == SAME and lot == WHOLE:
            self.even = True
            self.wanted = ()
            return []
        if self.even:
            self.hurry()
        if found is not None:
            first = [message_octets(("done", self.edition, lot))] if found == SAME else []
            return first + self._answers_to_pairs(telling)
        if self.heard[lot].is_full():
            if lot[0] == MOST_LEVEL:
                return everything(telling)
            return [message_octets(("part", self.edition, lot))]
        self.wanted = telling.lacking(self.wanted)
        return self._asks()

    def part(self, lot):
        """Tell the halves of a lot in its place, if it is told and there is room."""
        if lot in self.lots and lot[0] < MOST_LEVEL and len(self.lots) < MOST_LOTS_TOLD:
            self.lots = sorted([other for other in self.lots if other != lot] + list(halves_of(lot)))

    def done(self, lot):
        """Tell a lot no more, unless it is the whole one."""
        if lot in self.lots and lot != WHOLE:
            left = [other for other in self.lots if other != lot]
            self.lots = left if len(left) > 0 else [WHOLE]

    def _keep(self, edition, lot, size, index, number):
        """Keep a number, if it is of the edition heard or makes a greater one heard."""
        if self.edition is None or edition > self.edition:
            self.edition = edition
            self.heard = {}
        if edition == self.edition:
            if lot not in self.heard:
                self.heard[lot] = Heard(size)
            self.heard[lot].put(index, number)

    def _answers_to_pairs(self, telling):
        """Ask for and send what all differences tell together; nothing while that of another lot is to be found."""
        pairs = {lot: self.heard[lot].pair(lot, telling) for lot in sorted(self.heard)}
        told = [lot for lot in pairs if pairs[lot] is not None]
        for lot in pairs:
            open_yet = pairs[lot] is None and not self.heard[lot].is_full()
            if open_yet and not any([is_within(lot, other) for other in told]):
                return []
        more = sorted(set([name for lot in told for name in pairs[lot][0]]))
        less = sorted(set([name for lot in told for name in pairs[lot][1]]))
        if len(more) + len(less) == 0:
            return []
        self.wanted = tuple(more)
        return self._asks() + messages_of_notes(telling.notes_with(less))

    def _asks(self):
        """The messages that ask for the names that are wanted."""
        asks = []
        for at in range(0, len(self.wanted), MOST_ASKED):
            asks.append(message_octets(("ask", self.edition, self.wanted[at:at + MOST_ASKED])))
        return asks
