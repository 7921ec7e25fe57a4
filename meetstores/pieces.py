"""Messages cut into guarded pieces, and gathered again (points 5 and 6)."""

from meetstores.errors import BadCount, BadOctets, Short, Wrong
from meetstores.guard import block_of, is_block, octets_of
from meetstores.octets import count_from, count_octets, is_between, is_octets

MOST_SERIAL = 1099511627775
MOST_MESSAGE = 4000
PIECE = 40
MOST_PIECES = 100
MOST_WAITING = 8


def cut(serial, message):
    """The tuple of the blocks of a message's pieces, in order."""
    if not is_between(serial, 0, MOST_SERIAL):
        raise BadCount("not the serial of a message")
    if not is_octets(message, 0, MOST_MESSAGE):
        raise BadOctets("not a message of 0 to 4000 octets")
    head = count_octets(serial)
    total = max(1, (len(message) + PIECE - 1) // PIECE)
    return tuple([
        block_of(head + (index, total) + message[PIECE * index:PIECE * (index + 1)]) for index in range(total)
    ])


def is_piece(index, total, many):
    """Whether a piece of so many octets may stand at an index of a message of so many pieces."""
    if not index < total <= MOST_PIECES:
        return False
    if index < total - 1:
        return many == PIECE
    # Only the one piece of an empty message has no octets.
    return many <= PIECE and (many > 0 or total == 1)


def piece_in(octets):
    """The piece (serial, index, total, octets) that the octets of a mended block tell, or None."""
    try:
        serial, at = count_from(octets, 0)
    except (Short, Wrong):
        return None
    if serial > MOST_SERIAL or len(octets) < at + 2:
        return None
    index, total, part = octets[at], octets[at + 1], octets[at + 2:]
    if not is_piece(index, total, len(part)):
        return None
    return serial, index, total, part


def piece_of(block):
    """The piece (serial, index, total, octets) whose block a value is, once mended, or None."""
    if not is_block(block):
        return None
    octets = octets_of(block)
    if octets is None:
        return None
    return piece_in(octets)


class Gatherer:
    """Gathers the pieces of messages that come lost, doubled, overtaken and spoiled."""

    def __init__(self):
        # By the serial of each message: its total, and its pieces by their indexes.
        self._kept = {}

    def take(self, block):
        """Take in a value; the pair (serial, message) if a message is whole by it, otherwise None."""
        piece = piece_of(block)
        if piece is None:
            return None
        serial, index, total, octets = piece
        if serial not in self._kept:
            self._kept[serial] = (total, {})
        kept_total, parts = self._kept[serial]
        if kept_total != total:
            return None
        parts[index] = octets
        if len(parts) == total:
            del self._kept[serial]
            return serial, tuple([octet for k in range(total) for octet in parts[k]])
        if len(self._kept) > MOST_WAITING:
            del self._kept[min(self._kept)]
        return None

    def waiting(self):
        """The tuple, for each message that is not whole, of (serial, total, indexes), ascending."""
        rows = []
        for serial in sorted(self._kept):
            total, parts = self._kept[serial]
            rows.append((serial, total, tuple(sorted(parts))))
        return tuple(rows)
