"""Worlds: hosts, links between them, and frames on the way (points 17 and 18)."""

from meetstores.errors import BadCount, BadHost, BadLinks, NoFrame, NoLink, TooMany
from meetstores.hosts import Host
from meetstores.messages import is_ascending
from meetstores.octets import is_between

LEAST_HOSTS = 2
MOST_HOSTS = 8
MOST_SPOILED = 6
MOST_ROUNDS = 1000


def is_link(value, hosts):
    """Whether a value is a pair of two of so many hosts, the lesser first."""
    if type(value) is not tuple or len(value) != 2:
        return False
    return is_between(value[0], 0, hosts - 1) and is_between(value[1], value[0] + 1, hosts - 1)


def is_links(value, hosts):
    """Whether a value is the links of a world of so many hosts."""
    if type(value) is not tuple or not all([is_link(link, hosts) for link in value]):
        return False
    return is_ascending(value)


def link_of(one, two):
    """The pair of two hosts, the lesser first."""
    return (one, two) if one < two else (two, one)


def peers_of(number, links):
    """The ascending tuple of the hosts to which a host has a link."""
    # The links ascend, so those in which the host is the greater one stand before those in which it is the lesser.
    return tuple([one if two == number else two for one, two in links if number in (one, two)])


def many_unlike(block, other):
    """How many octets of two blocks of one length are not the same."""
    return len([octet for octet, others in zip(block, other) if octet != others])


class World:
    """A world of hosts, with links between some of them and frames on the way."""

    def __init__(self, hosts, links):
        if not is_between(hosts, LEAST_HOSTS, MOST_HOSTS):
            raise BadCount("not 2 to 8 hosts")
        if not is_links(links, hosts):
            raise BadLinks("not the links of this world")
        self._hosts = [Host(number, peers_of(number, links)) for number in range(hosts)]
        # By each link whether it is cut.
        self._links = {link: False for link in links}
        # Of each frame (from, to, the block as it was sent, the block as it is now), the eldest first.
        self._flight = []

    def host(self, number):
        """The Host with a number."""
        self._check_host(number)
        return self._hosts[number]

    def write(self, number, key, value):
        """Let a host write a value of a key."""
        self._check_host(number)
        self._hosts[number].write(key, value)

    def read(self, number, key):
        """The tuple of the values that a host has of a key."""
        self._check_host(number)
        return self._hosts[number].read(key)

    def store(self, number):
        """The store of a host."""
        self._check_host(number)
        return self._hosts[number].store()

    def state(self, number):
        """What a host keeps."""
        self._check_host(number)
        return self._hosts[number].state()

    def fall(self, number):
        """Let a host fall and rise again."""
        self._check_host(number)
        self._hosts[number].fall()

    def tick(self, number):
        """Let a tick go by at a host."""
        self._check_host(number)
        self._send(number, self._hosts[number].tick())

    def flight(self):
        """The tuple of the frames on the way, as triples (from, to, block), the eldest first."""
        return tuple([(sender, taker, block) for sender, taker, _, block in self._flight])

    def are_alike(self):
        """Whether all hosts have the same store."""
        store = self._hosts[0].store()
        return all([host.store() == store for host in self._hosts])

    def cut(self, one, two):
        """Cut a link: all frames on it are lost, and all that are sent over it from now on."""
        link = self._checked_link(one, two)
        self._links[link] = True
        self._flight = [frame for frame in self._flight if link_of(frame[0], frame[1]) != link]

    def heal(self, one, two):
        """Heal a link."""
        self._links[self._checked_link(one, two)] = False

    def lose(self, place):
        """Take a frame away."""
        self._check_place(place)
        del self._flight[place]

    def double(self, place):
        """Put a frame like one on the way behind all others."""
        self._check_place(place)
        self._flight.append(self._flight[place])

    def spoil(self, place, at, octet):
        """Put an octet at an index of a frame's block."""
        self._check_place(place)
        sender, taker, sent, block = self._flight[place]
        if not is_between(at, 0, len(block) - 1) or not is_between(octet, 0, 255):
            raise BadCount("not an index of the block, or not an octet")
        block = block[:at] + (octet,) + block[at + 1:]
        if many_unlike(sent, block) > MOST_SPOILED:
            raise TooMany(MOST_SPOILED)
        self._flight[place] = (sender, taker, sent, block)

    def deliver(self, place):
        """Let a frame come to its host."""
        self._check_place(place)
        sender, taker, _, block = self._flight.pop(place)
        self._send(taker, self._hosts[taker].take(sender, block))

    def deliver_all(self):
        """Let the eldest frame come to its host until none is on the way."""
        while len(self._flight) > 0:
            self.deliver(0)

    def settle(self, rounds):
        """Let at most so many rounds go by until the hosts are alike; how many it were, None if they are not then."""
        if not is_between(rounds, 0, MOST_ROUNDS):
            raise BadCount("not at most 1000 rounds")
        many = 0
        while not self.are_alike():
            if many == rounds:
                return None
            for number in range(len(self._hosts)):
                self.tick(number)
            self.deliver_all()
            many += 1
        return many

    def _check_host(self, number):
        """Raise the error of a value that is not the number of a host of this world."""
        if not is_between(number, 0, len(self._hosts) - 1):
            raise BadHost("not a host of this world")

    def _check_place(self, place):
        """Raise the error of a value that is not the place of a frame."""
        if not is_between(place, 0, len(self._flight) - 1):
            raise NoFrame("not the place of a frame")

    def _checked_link(self, one, two):
        """The link between two hosts, once it is sure that there is one."""
        self._check_host(one)
        self._check_host(two)
        link = link_of(one, two)
        if link not in self._links:
            raise NoLink("no link between the hosts")
        return link

    def _send(self, number, frames):
        """Put frames of a host on the way, unless they are lost on a cut link."""
        for peer, block in frames:
            if not self._links[link_of(number, peer)]:
                self._flight.append((number, peer, block, block))
