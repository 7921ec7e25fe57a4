"""Counts, texts and values as octets (points 2 and 3), and the checks of these that all modules share."""

from meetstores.errors import BadCount, BadOctets, BadPlace, BadText, BadValue, Short, Wrong

SIGNS = "abcdefghijklmnopqrstuvwxyzABCDEFGHIJKLMNOPQRSTUVWXYZ0123456789 .,:;-_/+*()=?!"
MOST_COUNT = 9223372036854775807
MOST_OCTETS_OF_COUNT = 9
MOST_SIGNS = 200
MOST_INTEGER = 1099511627776


def is_between(value, least, most):
    """Whether a value is an integer from least to most; True and False are none."""
    return type(value) is int and least <= value <= most


def is_octets(value, least, most):
    """Whether a value is a tuple of octets, at least and at most so many; most None sets no limit."""
    if type(value) is not tuple or len(value) < least:
        return False
    if most is not None and len(value) > most:
        return False
    if not all([type(octet) is int for octet in value]):
        return False
    return len(value) == 0 or (min(value) >= 0 and max(value) <= 255)


def is_signs(value, least, most):
    """Whether a value is a string of least to most signs, each one of SIGNS."""
    # strip leaves just what begins and ends with a sign of none of these: nothing, if all are good.
    return type(value) is str and least <= len(value) <= most and value.strip(SIGNS) == ""


def is_value(value):
    """Whether a value is one that can be kept in a store."""
    if value is None or is_between(value, -MOST_INTEGER, MOST_INTEGER):
        return True
    return is_signs(value, 0, MOST_SIGNS)


def count_octets(number):
    """The octets of a number that surely is a count."""
    octets = []
    while number > 127:
        octets.append(128 + (number & 127))
        number >>= 7
    octets.append(number)
    return tuple(octets)


def text_octets(text):
    """The octets of what surely is a text."""
    return count_octets(len(text)) + tuple([SIGNS.index(sign) for sign in text])


def value_octets(value):
    """The octets of what surely is a value."""
    if value is None:
        return (0,)
    if type(value) is str:
        return (2,) + text_octets(value)
    if value < 0:
        return (1,) + count_octets(-2 * value - 1)
    return (1,) + count_octets(2 * value)


def count_from(octets, at):
    """The count that stands at a good place of good octets, and the place behind it."""
    number = 0
    for group in range(MOST_OCTETS_OF_COUNT):
        place = at + group
        if place >= len(octets):
            raise Short("the octets end before the count does")
        octet = octets[place]
        if octet < 128:
            if octet == 0 and group > 0:
                raise Wrong(place)
            return number + (octet << (7 * group)), place + 1
        number += (octet - 128) << (7 * group)
    raise Wrong(at + MOST_OCTETS_OF_COUNT - 1)


def text_from(octets, at):
    """The text that stands at a good place of good octets, and the place behind it."""
    many, start = count_from(octets, at)
    if many > MOST_SIGNS:
        raise Wrong(at)
    signs = []
    for place in range(start, start + many):
        if place >= len(octets):
            raise Short("the octets end before the text does")
        if octets[place] >= len(SIGNS):
            raise Wrong(place)
        signs.append(SIGNS[octets[place]])
    return "".join(signs), start + many


def integer_from(octets, at):
    """The integer whose count stands at a good place of good octets, and the place behind it."""
    number, behind = count_from(octets, at)
    if number > 2 * MOST_INTEGER:
        raise Wrong(at)
    if number & 1:
        return -(number + 1) // 2, behind
    return number // 2, behind


def value_from(octets, at):
    """The value that stands at a good place of good octets, and the place behind it."""
    if at >= len(octets):
        raise Short("the octets end before the value does")
    if octets[at] > 2:
        raise Wrong(at)
    if octets[at] == 0:
        return None, at + 1
    if octets[at] == 1:
        return integer_from(octets, at + 1)
    return text_from(octets, at + 1)


def check_reading(octets, at):
    """Raise the error of octets, or of a place in them, from which nothing can be read."""
    if not is_octets(octets, 0, None):
        raise BadOctets("not a tuple of octets")
    if not is_between(at, 0, len(octets)):
        raise BadPlace("not a place in the octets")


def write_count(number):
    """The octets of a count."""
    if not is_between(number, 0, MOST_COUNT):
        raise BadCount("not a count")
    return count_octets(number)


def read_count(octets, at):
    """The pair of the count that is written from a place on, and the place behind it."""
    check_reading(octets, at)
    return count_from(octets, at)


def write_text(text):
    """The octets of a text."""
    if not is_signs(text, 0, MOST_SIGNS):
        raise BadText("not a text")
    return text_octets(text)


def read_text(octets, at):
    """The pair of the text that is written from a place on, and the place behind it."""
    check_reading(octets, at)
    return text_from(octets, at)


def write_value(value):
    """The octets of a value."""
    if not is_value(value):
        raise BadValue("not a value")
    return value_octets(value)


def read_value(octets, at):
    """The pair of the value that is written from a place on, and the place behind it."""
    check_reading(octets, at)
    return value_from(octets, at)
