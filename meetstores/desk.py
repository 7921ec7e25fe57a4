"""A desk at a host: questions and orders in words (point 26)."""

from meetstores.errors import BadDesk, NotText, Unasked
from meetstores.hosts import Host, number_of
from meetstores.kinds import adding_in, is_item, is_thing, items_in, putting, taking, total_in
from meetstores.lines import (
    count_told, integer_told, is_value_word, text_told, text_word, value_told, value_words, words_of,
)
from meetstores.notes import doubtful_in, is_key, values_in
from meetstores.octets import SIGNS

# What may belong to the word of each question, and of each order.
QUESTIONS = {
    "get": (("key",),), "keys": ((), ("text", "text")), "clashes": ((),), "find": (("text",),), "count": ((),),
    "total": (("thing",),), "items": (("thing",),),
}
ORDERS = {
    "set": (("key", "value"),), "strike": (("key",),), "pick": (("key", "count"),), "add": (("thing", "amount"),),
    "put": (("thing", "item"),), "take": (("thing", "item"),),
}


def is_text_of(kind, text):
    """Whether a text is one of a kind."""
    if kind == "key":
        return is_key(text)
    if kind == "thing":
        return is_thing(text)
    return kind == "text" or is_item(text)


def is_part_word(kind, word):
    """Whether a word tells a part of a kind."""
    if kind == "value":
        return is_value_word(word)
    if kind == "amount":
        return integer_told(word) is not None
    if kind == "count":
        return count_told(word) is not None
    text = text_told(word)
    return text is not None and is_text_of(kind, text)


def part_told(kind, word):
    """The part of a kind that is told by what surely is a word of it."""
    if kind == "count":
        return count_told(word)
    return value_told(word)


def parts_told(words):
    """What belongs to the word of a question or an order, in a list, told by its words; None if they are neither."""
    forms = QUESTIONS.get(words[0], ()) + ORDERS.get(words[0], ())
    told = words[1:]
    for form in forms:
        if len(form) == len(told) and all([is_part_word(kind, word) for kind, word in zip(form, told)]):
            return [part_told(kind, word) for kind, word in zip(form, told)]
    return None


def text_words(texts):
    """The words that tell texts, parted by single spaces."""
    return " ".join([text_word(text) for text in texts])


def sign_places(text):
    """The places in SIGNS of the signs of a text, in a list: such lists have the order of SIGNS."""
    return [SIGNS.index(sign) for sign in text]


def kept_keys(store):
    """The ascending list of the keys that have a note whose value isn't None."""
    return list({note[0]: True for note in store if note[4] is not None})


def keys_between(keys, first, last):
    """Those of some keys that are, by the order of SIGNS, not before a first text and not behind a last one."""
    least, most = sign_places(first), sign_places(last)
    return [key for key in keys if least <= sign_places(key) <= most]


def keys_with_text(store, text):
    """The ascending list of the keys that have a note whose value is a text in which a text stands."""
    return list({note[0]: True for note in store if type(note[4]) is str and text in note[4]})


def answer(store, word, parts):
    """What is answered to a question, from what surely is a store."""
    if word == "get":
        return value_words(values_in(store, parts[0]))
    if word == "keys":
        keys = kept_keys(store)
        return text_words(keys_between(keys, parts[0], parts[1]) if len(parts) > 0 else keys)
    if word == "clashes":
        return text_words(doubtful_in(store))
    if word == "find":
        return text_words(keys_with_text(store, parts[0]))
    if word == "count":
        return str(len(kept_keys(store)))
    if word == "total":
        return str(total_in(store, parts[0]))
    return text_words(items_in(store, parts[0]))


def picked(store, key, place):
    """The value at a place, from 1 on, of those that a key has."""
    values = values_in(store, key)
    if not 1 <= place <= len(values):
        raise Unasked("no value at this place")
    return values[place - 1]


def pair_ordered(host, word, parts):
    """The pair (key, value) that a host writes by an order."""
    if word == "set":
        return parts[0], parts[1]
    if word == "strike":
        return parts[0], None
    if word == "pick":
        return parts[0], picked(host.store(), parts[0], parts[1])
    if word == "add":
        # Of the errors of write and of adding, those of write are named first.
        host.check_next_serial()
        return adding_in(host.store(), number_of(host), parts[0], parts[1])
    if word == "put":
        return putting(parts[0], parts[1])
    return taking(parts[0], parts[1])


class Desk:
    """A desk at a Host."""

    def __init__(self, host):
        if not isinstance(host, Host):
            raise BadDesk("not a host")
        self._host = host

    def ask(self, text):
        """Answer a question, or do an order, told by a line."""
        if type(text) is not str:
            raise NotText("not a string")
        words = words_of(text)
        parts = parts_told(words) if words is not None else None
        if parts is None:
            raise Unasked("no question and no order")
        if words[0] in QUESTIONS:
            return answer(self._host.store(), words[0], parts)
        key, value = pair_ordered(self._host, words[0], parts)
        self._host.write(key, value)
        return "done"
