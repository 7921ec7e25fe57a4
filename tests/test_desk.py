import unittest
from collections import Counter

from histories import history, table_of
from lines import give
from meetstores.desk import Desk
from meetstores.errors import BadAmount, BadDesk, BadSerial, NotText, Unasked
from meetstores.hosts import Host
from meetstores.keeping import risen
from meetstores.notes import written
from meetstores.worlds import World
from samples import ODD, chance, note

SIGNS = "abcdefghijklmnopqrstuvwxyzABCDEFGHIJKLMNOPQRSTUVWXYZ0123456789 .,:;-_/+*()=?!"
LAST = 2 ** 27 - 1
TOP = 2 ** 40


def value_word(value):
    return "none" if value is None else f"'{value}'" if isinstance(value, str) else f"#{value}"


def text_words(texts):
    return " ".join(f"'{text}'" for text in texts)


def in_signs(text):
    """A text of which the machine's order is that of SIGNS."""
    return "".join(chr(32 + SIGNS.index(sign)) for sign in text)


def living(store):
    return sorted(key for key, values in table_of(store).items() if any(value is not None for value in values))


def host_with(store, number=0, serial=1000):
    """A host that has a store."""
    return risen((number, (7,) if number != 7 else (), 1, serial, 3, tuple(store)))


def looked(store, word, *parts):
    """What a question is answered, by a look at the whole store."""
    table = table_of(store)
    if word == "get":
        return " ".join(value_word(value) for value in table.get(parts[0], ()))
    if word == "keys" and not parts:
        return text_words(living(store))
    if word == "keys":
        low, high = map(in_signs, parts)
        return text_words(key for key in living(store) if low <= in_signs(key) <= high)
    if word == "clashes":
        return text_words(sorted(key for key in table if len(table[key]) > 1))
    if word == "find":
        return text_words(sorted(key for key in table if any(
            isinstance(value, str) and parts[0] in value for value in table[key])))
    if word == "count":
        return str(len(living(store)))
    if word == "total":
        return str(sum(value for host in range(8) for value in table.get(f"{parts[0]}+{host}", ())
                       if isinstance(value, int)))
    start = parts[0] + "/"
    return text_words(sorted(key[len(start):] for key in living(store) if key.startswith(start)))


class Questions(unittest.TestCase):
    def ask_all(self, host):
        """All questions, with words that are there and with words that are not."""
        desk, store = Desk(host), host.store()
        keys = sorted(table_of(store)) + ["nothing", "a" * 40, " "]
        for key in keys:
            self.assertEqual(desk.ask(f"get '{key}'"), looked(store, "get", key))
        for word in ("keys", "clashes", "count"):
            self.assertEqual(desk.ask(word), looked(store, word))
        texts = keys[::3] + ["", "z", "A", "9", "!", "z" * 200]
        for first in texts:
            for last in texts:
                self.assertEqual(desk.ask(f"keys '{first}' '{last}'"), looked(store, "keys", first, last))
        for text in ("", "fig", "f", "red", "Red", " ", ",", "g-f", "none", "figs", "x" * 200):
            self.assertEqual(desk.ask(f"find '{text}'"), looked(store, "find", text))
        for thing in ("visits", "bag", "nothing", "a", "visit", "t" * 20):
            self.assertEqual(desk.ask(f"total '{thing}'"), looked(store, "total", thing))
            self.assertEqual(desk.ask(f"items '{thing}'"), looked(store, "items", thing))
        self.assertEqual(host.store(), store)

    def test_questions_at_hosts_of_any_history(self):
        seen = Counter()
        for seed in range(12):
            for at, world in enumerate(history(seed + 200, 3, 120)):
                if at % 15 == 14:
                    host = world.host(at // 15 % 3)
                    before = host.state()
                    self.ask_all(host)
                    self.assertEqual(host.state(), before)
                    for values in table_of(host.store()).values():
                        nones = values.count(None)
                        seen[len(values) > 1, "all" if nones == len(values) else "some" if nones else "no"] += 1
        self.assertEqual(set(seen), {(many, nones) for many in (False, True) for nones in ("all", "some", "no")}
                         - {(False, "some")})

    def test_of_an_empty_store(self):
        desk = Desk(Host(0, ()))
        for line in ("get 'a'", "keys", "keys '' '!'", "clashes", "find ''", "items 'a'"):
            self.assertEqual(desk.ask(line), "")
        for line in ("count", "total 'a'"):
            self.assertEqual(desk.ask(line), "0")

    def test_answers_word_by_word(self):
        desk = Desk(host_with((
            note("a", 0, 1, value="red fig"), note("a", 2, 1), note("a", 5, 1, value=-3), note("b", 1, 1, value=""),
            note("c", 1, 2), note("c", 2, 2), note("d", 1, 3), note("e", 2, 3, value=0), note("e", 3, 3, value="Fig"),
            note("t+0", 0, 9, value=-5), note("t+7", 1, 9, value=3), note("t+7", 2, 9, value="x"), note("t+8", 2, 8, value=9),
            note("t/", 0, 10, value=1), note("t/ x", 0, 11, value=0), note("t/y", 0, 12), note("t/z/+", 0, 13, value=""))))
        for line, answer in (
            ("get 'a'", "'red fig' none #-3"), ("get 'b'", "''"), ("get 'c'", "none none"), ("get 'd'", "none"),
            ("get 'e'", "#0 'Fig'"), ("get 'f'", ""), ("clashes", "'a' 'c' 'e' 't+7'"), ("find 'ig'", "'a' 'e'"),
            ("keys", "'a' 'b' 'e' 't+0' 't+7' 't+8' 't/' 't/ x' 't/z/+'"), ("count", "9"),
            ("find ' '", "'a'"), ("find ''", "'a' 'b' 'e' 't+7' 't/z/+'"), ("find 'none'", ""), ("find '3'", ""),
            ("total 't'", "-2"), ("items 't'", "'' ' x' 'z/+'"), ("keys 'b' 'e'", "'b' 'e'"),
        ):
            self.assertEqual(desk.ask(line), answer)

    def test_keys_between_two_texts(self):
        # Small letters stand before great ones, these before figures, and all other signs behind them.
        keys = ("a", "aa", "aB", "a1", "a ", "a!", "b", "z", "A", "Z", "0", "9", " ", ".", "!", "+a", "+A")
        host = Host(0, ())
        for key in keys:
            host.write(key, key)
        host.write("m", None)
        desk = Desk(host)
        for first, last, inside in (
            ("", "!!", keys), ("a", "a", ("a",)), ("a", "a!", ("a", "aa", "aB", "a1", "a ", "a!")), ("aa", "a ", ("aa", "aB", "a1", "a ")),
            ("b", "a", ()), ("aa", "a", ()), ("a", "aa", ("a", "aa")), ("b", "Z", ("b", "z", "A", "Z")), ("Z", "b", ()),
            ("A", "0", ("A", "Z", "0")), ("0", " ", ("0", "9", " ")), (" ", "!", (" ", ".", "!", "+a", "+A")),
            ("+a", "+A", ("+a", "+A")), ("+A", "+a", ()), ("", "", ()), ("!", "!", ("!",)), ("!!", "!!", ()), ("aC", "a0", ()),
            ("zz", "zzz", ()), ("z" * 200, "A", ("A",)), ("m", "m", ()),
        ):
            with self.subTest(first=first, last=last):
                self.assertEqual(desk.ask(f"keys '{first}' '{last}'"), text_words(sorted(inside)))

    def test_keys_between_texts_of_each_pair_of_signs(self):
        host = Host(0, ())
        for sign in SIGNS:
            host.write(sign, 1)
        desk = Desk(host)
        for first in range(0, 77, 5):
            for last in range(0, 77, 7):
                self.assertEqual(desk.ask(f"keys '{SIGNS[first]}' '{SIGNS[last]}'"),
                                 text_words(sorted(SIGNS[first:last + 1])))

    def test_a_total_has_no_limit(self):
        store = tuple(note(f"t+{host}", host, 1, value=-TOP) for host in range(8))
        self.assertEqual(Desk(host_with(store)).ask("total 't'"), str(-8 * TOP))


class Orders(unittest.TestCase):
    def check(self, host, line, key, value):
        """An order writes just this."""
        number, peers, life, serial, edition, store = host.state()
        self.assertEqual(Desk(host).ask(line), "done")
        self.assertEqual(host.state(), (number, peers, life, serial + 1, edition + 1,
                                        written(store, number, serial + 1, key, value)))

    def refused(self, host, line, error):
        before = host.state()
        self.assertRaises(error, Desk(host).ask, line)
        self.assertEqual(host.state(), before)

    def test_orders_at_hosts_of_any_history(self):
        source = chance(210)
        picks = 0
        for seed in range(8):
            for at, world in enumerate(history(seed + 220, 3, 150)):
                if at % 12 == 11:
                    number = source.randrange(3)
                    host = world.host(number)
                    table = table_of(host.store())
                    key = source.choice(sorted(table) + ["new"])
                    value = source.choice((None, 5, -TOP, TOP, "", "a b", " ", SIGNS))
                    self.check(host, f"set '{key}' {value_word(value)}", key, value)
                    self.check(host, f"strike '{key}'", key, None)
                    key = source.choice(sorted(table) + ["x"])
                    self.check(host, f"put 'bag' '{key[:18]}'", f"bag/{key[:18]}", 1)
                    self.check(host, f"take 'bag' '{key[:18]}'", f"bag/{key[:18]}", None)
                    part = sum(one for one in table_of(host.store()).get(f"visits+{number}", ()) if isinstance(one, int))
                    amount = source.choice((0, 1, -9)) if abs(part) < 2 ** 39 else -part
                    self.check(host, f"add 'visits' #{amount}", f"visits+{number}", part + amount)
                    doubtful = [key for key, values in table_of(host.store()).items() if len(values) > 1]
                    picks += len(doubtful)
                    for key in doubtful:
                        place = source.randrange(len(table_of(host.store())[key]))
                        self.check(host, f"pick '{key}' {place + 1}", key, table_of(host.store())[key][place])
        self.assertGreater(picks, 10)

    def test_pick(self):
        store = (note("a", 0, 1, value="x"), note("a", 3, 1), note("a", 4, 1, value=7), note("b", 1, 1, value="y"))
        for place, value in ((1, "x"), (2, None), (3, 7)):
            self.check(host_with(store), f"pick 'a' {place}", "a", value)
        self.check(host_with(store), "pick 'b' 1", "b", "y")
        for line in ("pick 'a' 0", "pick 'a' 4", "pick 'b' 0", "pick 'b' 2", "pick 'c' 0", "pick 'c' 1", "pick 'a' 1048577",
                     "pick 'a' 99999999999999999999", "pick 'a' 100000000000000000000", "pick 'a' 01", "pick 'a' -1",
                     "pick 'a' #1", "pick 'a' '1'", "pick 'a' none", "pick 'a'", "pick 1 'a'", "pick 'a' 1 1"):
            self.refused(host_with(store), line, Unasked)

    def test_add(self):
        for sign in (1, -1):
            self.check(Host(2, ()), f"add 't' #{sign * TOP}", "t+2", sign * TOP)
            self.refused(Host(2, ()), f"add 't' #{sign * (TOP + 1)}", Unasked)
            near = (note("t+0", 0, 1, value=sign * (TOP - 1)), note("t+1", 1, 1, value=sign * TOP))
            self.check(host_with(near), f"add 't' #{sign}", "t+0", sign * TOP)
            self.refused(host_with(near), f"add 't' #{sign * 2}", BadAmount)
            self.check(host_with(near), f"add 't' #{-sign * TOP}", "t+0", -sign)
            self.check(host_with(near, 2), f"add 't' #{sign}", "t+2", sign)
        for line in ("add 't' none", "add 't' '5'", "add 't' 5", "add 't' #", "add 't' #-0", "add 't' #05", "add 't' #+5",
                     "add 't+' #5", "add 't/' #5", "add '' #5", "add 'ttttttttttttttttttttt' #5", "add t #5", "add 't'"):
            self.refused(Host(2, ()), line, Unasked)

    def test_errors_of_writes_as_they_are(self):
        lines = ("set 'a' #1", "strike 'a'", "pick 'a' 1", "add 't' #1", "put 't' 'i'", "take 't' 'i'")
        store = (note("a", 0, 5, value=2), note("t+0", 0, 6, value=TOP - 1))
        for line in lines:
            self.refused(host_with(store, serial=LAST), line, BadSerial)
            Desk(host_with(store, serial=LAST - 1)).ask(line)
        # Of several errors the one that point 26 names first.
        self.refused(host_with(store, serial=LAST), "add 't' #2", BadSerial)
        self.refused(host_with(store, serial=LAST - 1), "add 't' #2", BadAmount)
        for line, error in (("pick 'a' 2", Unasked), ("add 't' #1099511627777", Unasked), ("set '' #1", Unasked)):
            self.refused(host_with(store, serial=LAST), line, error)
        # A serial beyond the host's own, which only a made-up note can bring.
        host = Host(0, (1,))
        give(host, 1, ("notes", (note("a", 0, 5, value=2),)))
        for line in lines:
            self.refused(host, line, BadSerial)
        # Questions are answered all the same.
        self.assertEqual(Desk(host).ask("get 'a'"), "#2")

    def test_the_last_serial(self):
        host = host_with((), serial=LAST - 1)
        self.check(host, "set 'a' #1", "a", 1)
        self.refused(host, "set 'a' #1", BadSerial)
        self.refused(host, "set 'a'", Unasked)

    def test_desks_at_one_host(self):
        host = Host(0, ())
        one, two = Desk(host), Desk(host)
        one.ask("set 'a' 'b'")
        self.assertEqual(two.ask("get 'a'"), "'b'")
        host.write("a", 5)
        self.assertEqual([desk.ask("get 'a'") for desk in (one, two)], ["#5"] * 2)
        host.fall()
        self.assertEqual(one.ask("get 'a'"), "#5")


class Refused(unittest.TestCase):
    LINES = (
        "", " ", "  ", "get", "get ", "get  'a'", " get 'a'", "get 'a' ", "get a", "get 'a' 'b'", "get ''", "get 'a", "get 'a''",
        "get '" + "k" * 41 + "'", "get #5", "get none", "get 5", "Get 'a'", "GET 'a'", "'get' 'a'", "get'a'", "get\t'a'",
        "get 'a'\n", "get 'a\n'", "get '\u00e9'", "get 'a#'", "get \"a\"", "keys 'a'", "keys 'a' 'b' 'c'", "keys a b",
        "keys 'a' b", "keys 'a'  'b'", "keys ", "keys 'a' none", "keys '' '" + "x" * 201 + "'", "clashes 'a'", "clashes ",
        "clash", "find", "find a", "find 'a' 'b'", "find none", "find #5", "find '" + "x" * 201 + "'", "count 'a'", "count 1",
        "count ", "counts", "total", "total ''", "total 'a+'", "total 'a/b'", "total '" + "t" * 21 + "'", "total t", "total 'a' 'b'",
        "items", "items ''", "items 'a+'", "items 'a/'", "items '" + "t" * 21 + "'", "items t", "items 'a' 'b'", "set", "set 'a'",
        "set 'a' b", "set 'a' 5", "set '' #5", "set 'a' #5 #6", "set 'a' #1099511627777", "set 'a' #-1099511627777",
        "set 'a' None", "set 'a' '" + "v" * 201 + "'", "set a 'b'", "set 'a'  #5", "set 'a' #", "set '" + "k" * 41 + "' #5",
        "strike", "strike ''", "strike a", "strike 'a' none", "strike '" + "k" * 41 + "'", "put 'a'", "put 'a' ''", "put '' 'i'",
        "put 'a' '" + "i" * 19 + "'", "put 'a+' 'i'", "put 'a/' 'i'", "put 'a' i", "put 'a' 'i' 'j'", "put a 'i'",
        "put '" + "t" * 21 + "' 'i'", "take 'a'", "take 'a' ''", "take 'a' '" + "i" * 19 + "'", "take 'a+' 'i'", "take 'a' #1",
        "write 'a' #5", "show 'a'", "read 'a'", "world 2", "done", "refused", "none", "#5", "'a'", "?", "help", "set 'a' #5\nset 'b' #5",
    )

    def test_lines_that_are_none(self):
        store = (note("a", 0, 1, value="x"), note("a", 3, 1))
        host = host_with(store)
        desk, before = Desk(host), host.state()
        for line in self.LINES:
            with self.subTest(line), self.assertRaises(Unasked):
                desk.ask(line)
        self.assertEqual(host.state(), before)
        self.assertEqual(host.tick(), host_with(store).tick())

    def test_values_that_are_no_strings(self):
        host = host_with((note("a", 0, 1, value="x"),))
        desk, before = Desk(host), host.state()
        for value in ODD + (("count",), ["count"], {"count": 1}):
            if not isinstance(value, str):
                self.assertRaises(NotText, desk.ask, value)
            else:
                self.assertRaises(Unasked, desk.ask, value)
        self.assertEqual(host.state(), before)

    def test_values_that_are_no_hosts(self):
        for value in ODD + (World(2, ()), Host, Desk(Host(0, ())), "host", Host(0, ()).state()):
            self.assertRaises(BadDesk, Desk, value)

    def test_the_longest_lines(self):
        host = Host(0, ())
        desk = Desk(host)
        self.assertEqual(desk.ask("set '" + "k" * 40 + "' '" + "v" * 200 + "'"), "done")
        self.assertEqual(desk.ask("find '" + "v" * 200 + "'"), "'" + "k" * 40 + "'")
        self.assertEqual(desk.ask("put '" + "t" * 20 + "' '" + "i" * 18 + "'"), "done")
        self.assertEqual(desk.ask("items '" + "t" * 20 + "'"), "'" + "i" * 18 + "'")
        self.assertEqual(desk.ask("add '" + "t" * 20 + "' #5"), "done")
        self.assertEqual(desk.ask("total '" + "t" * 20 + "'"), "5")


if __name__ == "__main__":
    unittest.main()
