"""Messages between hosts as octets (point 13), and the octets of notes that kept states share."""

from meetstores.errors import BadMessage, BadOctets, Short, Unread, Wrong
from meetstores.finds import is_index, is_number_told, is_size
from meetstores.lots import is_lot
from meetstores.notes import MANY_HOSTS, is_name, is_note
from meetstores.octets import (
    count_from, count_octets, is_between, is_octets, text_from, text_octets, value_from, value_octets,
)
from meetstores.pieces import MOST_MESSAGE

MOST_EDITION = 1099511627775
MOST_ASKED = 100
MOST_NOTES = 40
# The most octets of notes that a host puts into one message.
MOST_NOTE_OCTETS = 3990
CODES = {"number": 1, "ask": 2, "all": 3, "notes": 4, "part": 5, "done": 6}


def is_edition(value):
    """Whether a value is the edition of a host's store."""
    return is_between(value, 0, MOST_EDITION)


def is_ascending(rows):
    """Whether each one of some rows is greater than the one before."""
    return all([before < row for before, row in zip(rows, rows[1:])])


def is_asked(value):
    """Whether a value is a tuple of names that an ask may have."""
    if type(value) is not tuple or not 1 <= len(value) <= MOST_ASKED:
        return False
    return all([is_name(name) for name in value]) and is_ascending(value)


def is_sent(value):
    """Whether a value is a tuple of notes that one message may have."""
    if type(value) is not tuple or not 1 <= len(value) <= MOST_NOTES:
        return False
    return all([is_note(note) for note in value]) and is_ascending([note[:3] for note in value])


def is_number_message(parts):
    """Whether some values are what belongs to the word of a number."""
    if len(parts) != 5:
        return False
    edition, lot, size, index, number = parts
    return is_edition(edition) and is_lot(lot) and is_size(size) and is_index(index) and is_number_told(number)


def is_message(value):
    """Whether a value is a message between hosts, if its octets are not too many."""
    if type(value) is not tuple or len(value) == 0 or type(value[0]) is not str:
        return False
    word, parts = value[0], value[1:]
    if word == "number":
        return is_number_message(parts)
    if word == "ask":
        return len(parts) == 2 and is_edition(parts[0]) and is_asked(parts[1])
    if word == "all":
        return len(parts) == 0
    if word == "notes":
        return len(parts) == 1 and is_sent(parts[0])
    if word in ("part", "done"):
        return len(parts) == 2 and is_edition(parts[0]) and is_lot(parts[1])
    return False


def counts_octets(numbers):
    """The octets of numbers that surely are counts, one behind another."""
    octets = []
    for number in numbers:
        octets.extend(count_octets(number))
    return tuple(octets)


def note_octets(note):
    """The octets of what surely is a note."""
    key, host, serial, past, value = note
    return text_octets(key) + (host,) + counts_octets((serial,) + past) + value_octets(value)


def notes_octets(many, octets):
    """The octets of the message of so many notes, their own octets being given."""
    return (CODES["notes"],) + count_octets(many) + tuple(octets)


def message_octets(message):
    """The octets of what surely is a message between hosts."""
    word, parts = message[0], message[1:]
    if word == "notes":
        return notes_octets(len(parts[0]), [octet for note in parts[0] for octet in note_octets(note)])
    if word == "number":
        numbers = parts[:1] + parts[1] + parts[2:]
    elif word == "ask":
        numbers = (parts[0], len(parts[1])) + parts[1]
    elif word == "all":
        numbers = ()
    else:
        numbers = parts[:1] + parts[1]
    return (CODES[word],) + counts_octets(numbers)


def messages_of_notes(notes):
    """The octets of the messages, in a list, in which a host sends notes: as many in each one as fit."""
    messages = []
    octets, many = [], 0
    for note in notes:
        added = note_octets(note)
        if many == MOST_NOTES or len(octets) + len(added) > MOST_NOTE_OCTETS:
            messages.append(notes_octets(many, octets))
            octets, many = [], 0
        octets.extend(added)
        many += 1
    if many > 0:
        messages.append(notes_octets(many, octets))
    return messages


def counts_from(octets, at, many):
    """So many counts from a place on, in a list, and the place behind them."""
    numbers = []
    for _ in range(many):
        number, at = count_from(octets, at)
        numbers.append(number)
    return numbers, at


def note_from(octets, at):
    """What stands as a note at a good place of good octets, be it one or not, and the place behind it."""
    key, at = text_from(octets, at)
    if at == len(octets):
        raise Short("the octets end before the note does")
    host = octets[at]
    numbers, at = counts_from(octets, at + 1, 1 + MANY_HOSTS)
    value, at = value_from(octets, at)
    return (key, host, numbers[0], tuple(numbers[1:]), value), at


def notes_from(octets, at):
    """What stands as notes behind their count, in a tuple, and the place behind it."""
    many, at = count_from(octets, at)
    notes = []
    # However great the count is, this ends where the octets do.
    while len(notes) < many:
        note, at = note_from(octets, at)
        notes.append(note)
    return tuple(notes), at


def names_from(octets, at):
    """What stands as names behind their count, in a tuple, and the place behind it."""
    many, at = count_from(octets, at)
    if many > MOST_ASKED:
        raise Unread("more names than an ask may have")
    names, at = counts_from(octets, at, many)
    return tuple(names), at


def message_from(octets):
    """What stands as a message at the beginning of octets, be it one or not, and the place behind it."""
    if len(octets) == 0:
        raise Short("no octets")
    code = octets[0]
    if code == CODES["number"]:
        numbers, behind = counts_from(octets, 1, 6)
        edition, level, rest, size, index, number = numbers
        return ("number", edition, (level, rest), size, index, number), behind
    if code == CODES["ask"]:
        edition, at = count_from(octets, 1)
        names, behind = names_from(octets, at)
        return ("ask", edition, names), behind
    if code == CODES["all"]:
        return ("all",), 1
    if code == CODES["notes"]:
        notes, behind = notes_from(octets, 1)
        return ("notes", notes), behind
    if code not in (CODES["part"], CODES["done"]):
        raise Unread("no message begins so")
    numbers, behind = counts_from(octets, 1, 3)
    word = "part" if code == CODES["part"] else "done"
    return (word, numbers[0], (numbers[1], numbers[2])), behind


def message_in(octets):
    """The message that has just some octets, not too many ones, or None."""
    try:
        message, behind = message_from(octets)
    except (Short, Wrong, Unread):
        return None
    if behind < len(octets) or not is_message(message):
        return None
    return message


def write_message(message):
    """The octets of a message between hosts."""
    if not is_message(message):
        raise BadMessage("not a message between hosts")
    octets = message_octets(message)
    if len(octets) > MOST_MESSAGE:
        raise BadMessage("a message of too many octets")
    return octets


def read_message(octets):
    """The message between hosts that has just these octets."""
    if not is_octets(octets, 0, MOST_MESSAGE):
        raise BadOctets("not 0 to 4000 octets")
    message = message_in(octets)
    if message is None:
        raise Unread("not the octets of a message between hosts")
    return message
