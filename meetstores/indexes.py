"""Indexes of the words in the values of a store (point 32)."""

from meetstores.errors import BadWord
from meetstores.notes import check_store, values_by_key
from meetstores.octets import is_signs

MOST_WORD = 40
# The signs that part words: all of SIGNS but the letters and figures, and the space.
PARTING_SIGNS = ".,:;-_/+*()=?!"


def words_in(text):
    """The list of the words of a text, as often as they stand in it."""
    for sign in PARTING_SIGNS:
        text = text.replace(sign, " ")
    return text.split()


def words_of_values(values):
    """The ascending list of the words of all values that are texts."""
    return sorted(set([word for value in values if type(value) is str for word in words_in(value)]))


def is_word(value):
    """Whether a value is a word that can be asked for."""
    return is_signs(value, 1, MOST_WORD) and words_in(value) == [value]


class Index:
    """An index of the words in the values of a store."""

    def __init__(self):
        # The values of each key of the store, the words of each key that has some, and the keys of each word.
        self._values = {}
        self._words = {}
        self._keys = {}

    def follow(self, store):
        """Become the index of a store; how many keys had other words in it than before."""
        check_store(store)
        before, self._values = self._values, values_by_key(store)
        many = 0
        for key in sorted(set(before) | set(self._values)):
            values = self._values.get(key, ())
            if values != before.get(key, ()) and self._put(key, words_of_values(values)):
                many += 1
        return many

    def keys_with(self, word):
        """The ascending tuple of the keys of which some value has a word."""
        if not is_word(word):
            raise BadWord("not a word")
        return tuple(sorted(self._keys.get(word, {})))

    def keys_with_all(self, words):
        """The ascending tuple of the keys of which the values together have all of some words."""
        if type(words) is not tuple or len(words) == 0 or not all([is_word(word) for word in words]):
            raise BadWord("not a tuple of words")
        rows = [self._keys.get(word, {}) for word in words]
        return tuple(sorted([key for key in rows[0] if all([key in row for row in rows])]))

    def words(self):
        """The ascending tuple of all words."""
        return tuple(sorted(self._keys))

    def _put(self, key, words):
        """Let a key have just some words; whether it had other ones before."""
        before = self._words.pop(key, [])
        if len(words) > 0:
            self._words[key] = words
        for word in before:
            del self._keys[word][key]
        for word in words:
            self._keys.setdefault(word, {})[key] = True
        for word in before:
            if len(self._keys[word]) == 0:
                del self._keys[word]
        return before != words
