"""Hosts: each keeps a store and talks with its peers until they are alike (points 14 to 16)."""

from meetstores.errors import BadHost, BadHosts, BadSerial, BadValue
from meetstores.messages import is_ascending, message_in, messages_of_notes
from meetstores.notes import MOST_SERIAL, check_key, is_host, last_serial, store_and, store_with, values_in
from meetstores.octets import is_value
from meetstores.pieces import cut
from meetstores.talks import Talk, everything
from meetstores.telling import Telling

# How many messages a host sends in one life.
MESSAGES = 1048576


def is_peers(value, number):
    """Whether a value is the tuple of the hosts that the host with a number may talk with."""
    if type(value) is not tuple or not all([is_host(peer) for peer in value]):
        return False
    return is_ascending(value) and number not in value


class Host:
    """A host: what it keeps in a fall, and its talks, which it loses by one."""

    def __init__(self, number, peers):
        if not is_host(number):
            raise BadHost("not the number of a host")
        if not is_peers(peers, number):
            raise BadHosts("not the hosts that this one may talk with")
        self._number = number
        self._peers = peers
        self._life = 1
        self._serial = 0
        # The store has no serial of this host that is greater than both its last one and this: so a write need not
        # look at the whole store, unless a greater one has come.
        self._bound = 0
        self._telling = Telling(0, ())
        self._begin()

    def _begin(self):
        """Have sent nothing in this life, and begin all talks."""
        self._sent = 0
        self._talks = {peer: Talk() for peer in self._peers}

    def rise(self, life, serial, edition, store):
        """Rise with what a host has kept; all that surely is good."""
        self._life = life
        self._serial = serial
        self._telling = Telling(edition, store)
        self._begin()

    def store(self):
        """The host's store."""
        return self._telling.notes

    def state(self):
        """What the host keeps: (number, peers, life, serial, edition, store)."""
        return self._number, self._peers, self._life, self._serial, self._telling.edition, self._telling.notes

    def read(self, key):
        """The tuple of the values of a key."""
        check_key(key)
        return values_in(self._telling.notes, key)

    def write(self, key, value):
        """Write a value of a key."""
        check_key(key)
        if not is_value(value):
            raise BadValue("not a value")
        self.check_next_serial()
        self._serial += 1
        self._change(store_with(self._telling.notes, self._number, self._serial, key, value))

    def check_next_serial(self):
        """Raise an error if the serial of the next write would be none, or is not beyond all in the store."""
        if self._serial < self._bound:
            self._bound = last_serial(self._telling.notes, self._number)
        if self._serial == MOST_SERIAL or self._serial < self._bound:
            raise BadSerial("no serial is left for the write")

    def fall(self):
        """Fall, and rise again with nothing but what is kept."""
        self._life += 1
        self._begin()

    def tick(self):
        """Let a tick go by; the tuple of the frames that the host sends."""
        frames = []
        for peer in self._peers:
            frames.extend(self._frames(peer, self._talks[peer].due(self._telling)))
        return tuple(frames)

    def take(self, peer, block):
        """Let a value come as a block from a peer; the tuple of the frames that the host sends back."""
        if not is_host(peer) or peer not in self._talks:
            raise BadHost("not a peer")
        talk = self._talks[peer]
        whole = talk.gatherer.take(block)
        message = message_in(whole[1]) if whole is not None else None
        if message is None:
            return ()
        return tuple(self._frames(peer, self._answers(talk, message)))

    def _answers(self, talk, message):
        """Do what a message of a talk asks for; the messages that answer it, as octets, in a list."""
        word, parts = message[0], message[1:]
        if word == "number":
            return talk.hear(parts, self._telling)
        if word == "ask":
            return self._answers_to_ask(parts[0], parts[1])
        if word == "all":
            return messages_of_notes(self._telling.notes)
        if word == "notes":
            self._take_in(parts[0])
        elif parts[0] == self._telling.edition:
            if word == "part":
                talk.part(parts[1])
            else:
                talk.done(parts[1])
        return []

    def _answers_to_ask(self, edition, names):
        """The messages that send the notes with some names that were read from the numbers of an edition."""
        if edition == self._telling.edition and len(self._telling.lacking(names)) > 0:
            return everything(self._telling)
        return messages_of_notes(self._telling.notes_with(names))

    def _take_in(self, notes):
        """Take notes into the store."""
        self._bound = max(self._bound, last_serial(notes, self._number))
        store = store_and(self._telling.notes, notes)
        if store != self._telling.notes:
            self._change(store)

    def _change(self, store):
        """Let the store become another one."""
        self._telling = Telling(self._telling.edition + 1, store)
        for peer in self._peers:
            self._talks[peer].hurry()

    def _frames(self, peer, messages):
        """The frames, in a list, of messages to a peer, which are given as octets."""
        frames = []
        for message in messages:
            if self._sent == MESSAGES:
                self._life += 1
                self._sent = 0
            for block in cut(self._life * MESSAGES + self._sent, message):
                frames.append((peer, block))
            self._sent += 1
        return frames


def check_host(host):
    """Raise the error of a value that is not a Host."""
    if not isinstance(host, Host):
        raise BadHost("not a host")


def number_of(host):
    """The number of a host."""
    return host.state()[0]


def serial_of(host):
    """The serial of a host's last write."""
    return host.state()[3]


def edition_of(host):
    """The edition of a host's store."""
    return host.state()[4]


def check_serials(host, many):
    """Raise an error if a host has no serials left for so many writes."""
    if serial_of(host) + many > MOST_SERIAL:
        raise BadSerial("not as many serials are left")
