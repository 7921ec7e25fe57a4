"""Trips: one reads and writes at any hosts, and never falls behind what was read or written before (point 31)."""

from meetstores.errors import BadHost, BadValue, Behind
from meetstores.hosts import check_host
from meetstores.notes import MANY_HOSTS, check_key, seen_in
from meetstores.octets import is_value


class Trip:
    """One who reads and writes at any Hosts."""

    def __init__(self):
        # By each key the serials of the hosts up to which their writes of it have been seen.
        self._seen = {}

    def known(self, key):
        """For each host the serial up to which its writes of a key have been seen, or 0."""
        check_key(key)
        return self._serials(key)

    def is_behind(self, host, key):
        """Whether a host has not got all that has been seen of a key."""
        check_host(host)
        check_key(key)
        return self._is_beyond(host, key)

    def read(self, host, key):
        """The tuple of the values that a host has of a key."""
        check_host(host)
        check_key(key)
        self._check_not_behind(host, key)
        self.learn(key, seen_in(host.store(), key))
        return host.read(key)

    def write(self, host, key, value):
        """Let a host write a value of a key."""
        check_host(host)
        check_key(key)
        if not is_value(value):
            raise BadValue("not a value")
        self._check_not_behind(host, key)
        host.write(key, value)
        self.learn(key, seen_in(host.store(), key))

    def hand_on(self, other):
        """Let another Trip know all that this one knows."""
        if not isinstance(other, Trip):
            raise BadHost("not a trip")
        for key in list(self._seen):
            other.learn(key, self._serials(key))

    def learn(self, key, serials):
        """Know that the writes of a key up to the serials of the hosts have been seen; all that surely is good."""
        known = self._serials(key)
        self._seen[key] = tuple([max(one, two) for one, two in zip(known, serials)])

    def _serials(self, key):
        """What is known of what surely is a key."""
        return self._seen.get(key, (0,) * MANY_HOSTS)

    def _is_beyond(self, host, key):
        """Whether more has been seen of a key than what surely is a Host has."""
        has = seen_in(host.store(), key)
        return any([one > two for one, two in zip(self._serials(key), has)])

    def _check_not_behind(self, host, key):
        """Raise an error if what surely is a Host is behind for a key."""
        if self._is_beyond(host, key):
            raise Behind("the host has not got all that has been seen")
