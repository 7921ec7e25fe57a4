"""Logs of what changes in a host's store, and mirrors that follow them (point 28)."""

from meetstores.errors import BadAnswer
from meetstores.hosts import check_host, edition_of
from meetstores.messages import is_edition
from meetstores.notes import is_key, values_by_key
from meetstores.octets import is_value

MOST_MARKS = 20


def changed_keys(before, now):
    """The list of the keys that have other values now than before; both are tables of values by their keys."""
    gone = [key for key in before if key not in now]
    return gone + [key for key in now if key not in before or before[key] != now[key]]


def is_row(value):
    """Whether a value is a pair of a key and a tuple of values."""
    if type(value) is not tuple or len(value) != 2 or type(value[1]) is not tuple:
        return False
    return is_key(value[0]) and all([is_value(worth) for worth in value[1]])


def is_answer(value):
    """Whether a value is a triple as a log answers."""
    if type(value) is not tuple or len(value) != 3 or value[0] not in ("all", "changes"):
        return False
    return is_edition(value[1]) and type(value[2]) is tuple and all([is_row(row) for row in value[2]])


class Log:
    """A log of what changes in a Host's store."""

    def __init__(self, host):
        check_host(host)
        self._host = host
        self._start = edition_of(host)
        # Of each mark (edition, keys), the eldest first.
        self._marks = []
        # The values by their keys, as they were at the last mark, or at the beginning.
        self._table = values_by_key(host.store())

    def mark(self):
        """Take down a mark if there is a new edition; the host's edition."""
        edition = edition_of(self._host)
        last = self._marks[-1][0] if len(self._marks) > 0 else self._start
        if edition > last:
            table = values_by_key(self._host.store())
            self._marks.append((edition, changed_keys(self._table, table)))
            self._table = table
        if len(self._marks) > MOST_MARKS:
            self._start, _ = self._marks.pop(0)
        return edition

    def since(self, edition):
        """What has changed since an edition, or all that there is: a triple that a Mirror takes."""
        now = self.mark()
        if not self._is_known(edition):
            return "all", now, tuple([(key, self._table[key]) for key in self._table])
        changed = {key: True for marked, keys in self._marks if marked > edition for key in keys}
        return "changes", now, tuple([(key, self._table.get(key, ())) for key in sorted(changed)])

    def _is_known(self, edition):
        """Whether a value is the edition at which the log begins, or that of a mark."""
        if not is_edition(edition):
            return False
        return edition == self._start or edition in [marked for marked, _ in self._marks]


class Mirror:
    """A table that follows a log."""

    def __init__(self):
        self.edition = None
        self._rows = {}

    def take(self, answer):
        """Take over a triple that a log has answered."""
        if not is_answer(answer):
            raise BadAnswer("not what a log answers")
        word, edition, rows = answer
        if word == "all":
            self._rows = {}
        for key, values in rows:
            if len(values) > 0:
                self._rows[key] = values
            else:
                self._rows.pop(key, None)
        self.edition = edition

    def table(self):
        """The ascending tuple of the rows (key, values)."""
        return tuple([(key, self._rows[key]) for key in sorted(self._rows)])
