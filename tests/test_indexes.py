import unittest
from collections import Counter

from histories import KEYS, VALUES, stores_of, table_of
from meetstores.errors import BadStore, BadWord
from meetstores.indexes import Index
from meetstores.notes import written
from samples import ODD, chance, note

SIGNS = "abcdefghijklmnopqrstuvwxyzABCDEFGHIJKLMNOPQRSTUVWXYZ0123456789 .,:;-_/+*()=?!"
TEXTS = VALUES + ("red", "Red", "fig red", "red, old; fig!", "a-b_c/d", "12", "12a", "--", " ", "old fig-tree", "x" * 41, "x" * 40)


def words_of(text):
    """The words of a text, sign by sign."""
    words, word = [], ""
    for sign in text + " ":
        if sign.isalnum():
            word += sign
        elif word:
            words.append(word)
            word = ""
    return words


def words_by_key(store):
    """Of each key all words of all its values."""
    return {key: {word for value in values if isinstance(value, str) for word in words_of(value)}
            for key, values in table_of(store).items()}


def store_of(**values):
    return tuple(note(key, 0, at, value=value) for at, (key, value) in enumerate(sorted(values.items()), 1))


class Follow(unittest.TestCase):
    def check(self, index, store):
        """An index is that of a store."""
        table = words_by_key(store)
        words = sorted(set().union(*table.values()))
        self.assertEqual(index.words(), tuple(words))
        for word in words + ["nothing", "re", "Fig"]:
            if len(word) <= 40:
                self.assertEqual(index.keys_with(word), tuple(sorted(key for key in table if word in table[key])))
        asked = [word for word in words if len(word) <= 40][:7] + ["nothing"]
        for one in asked:
            for two in asked:
                for three in asked[::3]:
                    self.assertEqual(index.keys_with_all((one, two, three)),
                                     tuple(sorted(key for key in table if {one, two, three} <= table[key])))

    def test_stores_one_behind_another_forwards_and_back(self):
        source, many = chance(530), Counter()
        for seed in range(8):
            stores = stores_of(seed + 530, 3, 80, KEYS[:7], TEXTS)
            places = list(range(len(stores))) + list(range(len(stores)))[::-3]
            places += [source.randrange(len(stores)) for _ in range(10)] + [0]
            index, before = Index(), {}
            for place in places:
                now = words_by_key(stores[place])
                changed = [key for key in {**before, **now} if before.get(key, set()) != now.get(key, set())]
                self.assertEqual(index.follow(stores[place]), len(changed))
                self.assertEqual(index.follow(stores[place]), 0)
                self.check(index, stores[place])
                many[len(changed)] += 1
                before = now
        self.assertGreater(len(many), 3)

    def test_a_new_index(self):
        index = Index()
        self.check(index, ())
        self.assertEqual(index.follow(()), 0)
        self.check(index, ())

    def test_how_many_keys_changed(self):
        index = Index()
        for values, many in (
            ({"a": "red fig", "b": "red, old", "c": 5, "d": None, "e": "", "f": "-!"}, 2), ({"a": "red fig", "b": "red, old"}, 0),
            # Values change, and their words don't.
            ({"a": "fig red", "b": "old;red."}, 0), ({"a": "fig red red", "b": " old red"}, 0), ({"a": "fig red", "b": "old"}, 1),
            ({"a": "Fig red", "b": "old"}, 1), ({"a": "Fig red", "b": 7, "c": "x"}, 2), ({"a": "Figred", "b": None, "c": "x"}, 1),
            ({"d": "Figred", "c": "x"}, 2), ({}, 2), ({}, 0), ({"a": 5}, 0), ({"a": "5"}, 1), ({"a": 5}, 1),
        ):
            store = store_of(**values)
            self.assertEqual(index.follow(store), many)
            self.check(index, store)

    def test_all_values_of_a_key_together(self):
        index = Index()
        several = (note("a", 0, 1, value="red fig"), note("a", 2, 1, value=5), note("a", 3, 1, value="old fig"))
        self.assertEqual(index.follow(several), 1)
        self.assertEqual(index.words(), ("fig", "old", "red"))
        self.assertEqual(index.keys_with_all(("red", "old")), ("a",))
        # The same words in one value, or parted in another way.
        self.assertEqual(index.follow(store_of(a="old red fig")), 0)
        self.assertEqual(index.follow((note("a", 1, 1, value="fig"), note("a", 4, 1, value="old-red"))), 0)
        self.assertEqual(index.follow((note("a", 1, 1, value="fig"), note("a", 4, 1, value="oldred"))), 1)

    def test_words_that_touch_each_other_by_signs_only(self):
        text = "a" + "".join(sign + "b" for sign in SIGNS if not sign.isalnum()) + "(c)"
        index = Index()
        index.follow(store_of(k=text, m="a.b", n="ab", o="a", p="A1-1A"))
        self.assertEqual(index.words(), ("1A", "A1", "a", "ab", "b", "c"))
        self.assertEqual(index.keys_with("b"), ("k", "m"))
        self.assertEqual(index.keys_with("a"), ("k", "m", "o"))
        for sign in SIGNS:
            index.follow(store_of(k="x" + sign + "y"))
            self.assertEqual(index.words(), ("x" + sign + "y",) if sign.isalnum() else ("x", "y"))

    def test_values_that_are_no_texts(self):
        index = Index()
        self.assertEqual(index.follow(store_of(a=5, b=None, c=0, d=-2 ** 40)), 0)
        self.assertEqual(index.words(), ())
        self.assertEqual(index.keys_with("5"), ())
        self.assertEqual(index.keys_with("None"), ())

    def test_long_words(self):
        index = Index()
        index.follow(store_of(a="x" * 40, b="x" * 41, c="y" * 200))
        self.assertEqual(index.words(), ("x" * 40, "x" * 41, "y" * 200))
        self.assertEqual(index.keys_with("x" * 40), ("a",))
        self.assertRaises(BadWord, index.keys_with, "x" * 41)

    def test_indexes_are_their_own(self):
        one, two = Index(), Index()
        one.follow(store_of(a="red"))
        self.assertEqual((one.words(), two.words()), (("red",), ()))

    def test_great_stores(self):
        store = tuple(note(f"k{k:05}", 0, k + 1, value=f"all w{k} m{k % 10}") for k in range(3000))
        index = Index()
        self.assertEqual(index.follow(store), 3000)
        self.assertEqual(index.follow(written(store, 1, 1, "k00007", "all w7 m8")), 1)
        self.assertEqual(len(index.keys_with("all")), 3000)
        self.assertEqual(index.keys_with_all(("all", "w7", "m8")), ("k00007",))
        self.assertEqual(len(index.keys_with("m7")), 299)
        self.assertEqual(index.follow(()), 3000)
        self.assertEqual(index.words(), ())


class Asking(unittest.TestCase):
    def setUp(self):
        self.index = Index()
        self.store = (note("a", 0, 1, value="red fig"), note("a", 1, 1, value="old 12"), note("b", 0, 2, value="red, old"),
                      note("c", 0, 3, value="Red"), note("d", 0, 4, value=5))
        self.index.follow(self.store)

    def test_keys_with_all(self):
        for words, keys in ((("red",), ("a", "b")), (("red", "fig"), ("a",)), (("red", "old"), ("a", "b")), (("12", "fig"), ("a",)),
                            (("red", "red"), ("a", "b")), (("red", "fig", "red", "old", "12"), ("a",)), (("Red", "red"), ()),
                            (("nothing",), ()), (("red", "nothing"), ()), (("nothing", "red"), ()), (("5",), ())):
            self.assertEqual(self.index.keys_with_all(words), keys)

    def test_refused(self):
        bad = [value for value in ODD if type(value) is not str or not 1 <= len(value) <= 40 or set(value) - set("a")]
        bad += ["a b", " a", "a ", "a-b", "-", " ", "a'", "a#", "\u00e9", "\u0661", "a\n", "x" * 41, "a\tb"]
        for word in bad:
            self.assertRaises(BadWord, self.index.keys_with, word)
            for words in ((word,), ("red", word), (word, "red"), ("red", word, "fig")):
                self.assertRaises(BadWord, self.index.keys_with_all, words)
        for words in ODD + ((), ["red"], "red", {"red": 1}, ("red", None), (("red",),)):
            if words != ("a",):
                self.assertRaises(BadWord, self.index.keys_with_all, words)
        self.assertEqual(self.index.keys_with("red"), ("a", "b"))

    def test_refused_stores_change_nothing(self):
        for store, index in ((None, None), ([], None), ((1,), 0), ((note("a", 0, 0),), 0), (self.store * 2, 5),
                             (self.store + (note("a", 0, 1),), 5)):
            with self.assertRaises(BadStore) as caught:
                self.index.follow(store)
            self.assertEqual(caught.exception.index, index)
        self.assertEqual(self.index.words(), ("12", "Red", "fig", "old", "red"))
        self.assertEqual(self.index.follow(self.store), 0)


if __name__ == "__main__":
    unittest.main()
