import unittest
from collections import Counter

from histories import KEYS, VALUES, history, rows_of, table_of
from lines import give
from meetstores.errors import BadAnswer, BadHost
from meetstores.hosts import Host
from meetstores.keeping import risen
from meetstores.mirrors import Log, Mirror
from meetstores.worlds import World
from samples import ODD, chance, note

TOP = 2 ** 40 - 1


class ModelLog:
    """A log that keeps the whole stores of its marks."""

    def __init__(self, host):
        self.host, self.begin, self.store, self.marks = host, host.state()[4], host.store(), []

    def mark(self):
        edition = self.host.state()[4]
        if edition > (self.marks[-1][0] if self.marks else self.begin):
            old, new = table_of(self.store), table_of(self.host.store())
            self.marks.append((edition, {key for key in {**old, **new} if old.get(key) != new.get(key)}))
            self.store = self.host.store()
        if len(self.marks) == 21:
            self.begin = self.marks.pop(0)[0]
        return edition

    def since(self, edition):
        now, table = self.mark(), table_of(self.host.store())
        if type(edition) is int and edition in [self.begin] + [marked for marked, _ in self.marks]:
            keys = set().union(*[keys for marked, keys in self.marks if marked > edition])
            return "changes", now, tuple((key, table.get(key, ())) for key in sorted(keys))
        return "all", now, rows_of(self.host.store())


class Logs(unittest.TestCase):
    def check(self, log, answers):
        """What a log answers to since of each edition."""
        for edition, answer in answers.items():
            self.assertEqual(log.since(edition), answer)

    def test_marks_by_mark_and_by_since(self):
        host = Host(0, ())
        log = Log(host)
        self.assertEqual(log.since(0), ("changes", 0, ()))
        self.assertEqual(log.mark(), 0)
        host.write("a", 1)
        host.write("b", 2)
        self.assertEqual(log.mark(), 2)
        self.check(log, {0: ("changes", 2, (("a", (1,)), ("b", (2,)))), 1: ("all", 2, (("a", (1,)), ("b", (2,)))),
                         2: ("changes", 2, ()), 3: ("all", 2, (("a", (1,)), ("b", (2,))))})
        host.write("a", 3)
        self.check(log, {2: ("changes", 3, (("a", (3,)),)), 0: ("changes", 3, (("a", (3,)), ("b", (2,)))),
                         3: ("changes", 3, ())})
        self.assertEqual([log.mark(), log.mark()], [3, 3])
        self.check(log, {2: ("changes", 3, (("a", (3,)),))})

    def test_a_log_that_begins_later(self):
        host = Host(0, ())
        for k in range(5):
            host.write("a", k)
        log = Log(host)
        self.assertEqual(log.since(5), ("changes", 5, ()))
        for edition in (0, 4, 6):
            self.assertEqual(log.since(edition), ("all", 5, (("a", (4,)),)))
        host.write("b", 1)
        self.assertEqual(log.since(5), ("changes", 6, (("b", (1,)),)))

    def test_no_change_of_values_between(self):
        host = Host(0, (1,))
        log = Log(host)
        host.write("a", 1)
        log.mark()
        host.write("a", 1)
        host.write("a", 1)
        self.check(log, {1: ("changes", 3, ()), 3: ("changes", 3, ()), 0: ("changes", 3, (("a", (1,)),))})
        # Another note beside it, or in its place, of which the values are the same.
        give(host, 1, ("notes", (note("a", 1, 4, {0: 3}, 1),)))
        self.check(log, {3: ("changes", 4, ())})
        give(host, 1, ("notes", (note("a", 2, 4, value=1),)), 7)
        self.check(log, {4: ("changes", 5, (("a", (1, 1)),)), 3: ("changes", 5, (("a", (1, 1)),))})

    def test_a_change_that_was_taken_back(self):
        host = Host(0, ())
        host.write("a", 1)
        log = Log(host)
        host.write("a", 2)
        host.write("a", 1)
        self.check(log, {1: ("changes", 3, ()), 2: ("all", 3, (("a", (1,)),)), 3: ("changes", 3, ())})
        # With a mark between it is told, with its value now.
        host.write("a", 2)
        log.mark()
        host.write("a", 1)
        self.check(log, {3: ("changes", 5, (("a", (1,)),)), 4: ("changes", 5, (("a", (1,)),)), 5: ("changes", 5, ())})

    def test_keys_that_come_and_go(self):
        # Two notes that cover each other are both dropped: so a key's last note goes.
        host = Host(0, (1,))
        log = Log(host)
        give(host, 1, ("notes", (note("a", 1, 5, {2: 7}, "x"), note("b", 1, 6, value="y"))))
        self.check(log, {0: ("changes", 1, (("a", ("x",)), ("b", ("y",))))})
        give(host, 1, ("notes", (note("a", 2, 6, {1: 5}, "z"),)), 6)
        self.assertEqual(host.read("a"), ())
        self.check(log, {1: ("changes", 2, (("a", ()),)), 0: ("changes", 2, (("a", ()), ("b", ("y",)))),
                         9: ("all", 2, (("b", ("y",)),))})
        host.write("a", None)
        self.check(log, {2: ("changes", 3, (("a", (None,)),)), 9: ("all", 3, (("a", (None,)), ("b", ("y",))))})

    def test_20_21_and_22_marks(self):
        host = risen((0, (), 1, 0, 100, ()))
        log, twin = Log(host), ModelLog(host)
        for many in range(1, 26):
            host.write(f"k{many:02}", many)
            self.assertEqual(log.mark(), 100 + many)
            twin.mark()
            begin = 100 if many <= 20 else 80 + many
            for edition in range(98, 128):
                answer = log.since(edition)
                self.assertEqual(answer, twin.since(edition))
                self.assertEqual(answer[0], "changes" if begin <= edition <= 100 + many else "all")
                if answer[0] == "changes":
                    self.assertEqual([key for key, _ in answer[2]], [f"k{k:02}" for k in range(edition - 99, many + 1)])

    def test_marks_without_changes_count(self):
        host = Host(0, ())
        log = Log(host)
        for many in range(1, 22):
            host.write("a", 1)
            log.mark()
            self.assertEqual(log.since(0)[0], "changes" if many <= 20 else "all")
        self.assertEqual(log.since(1), ("changes", 21, ()))

    def test_editions_that_are_none(self):
        host = Host(0, ())
        log = Log(host)
        host.write("a", 1)
        for edition in ODD:
            if edition not in (0, 1) or type(edition) is not int:
                self.assertEqual(log.since(edition), ("all", 1, (("a", (1,)),)))
        self.assertEqual(log.since(False), ("all", 1, (("a", (1,)),)))

    def test_beside_the_model(self):
        source, words = chance(310), Counter()
        for seed in range(8):
            logs, begun = [], []
            for at, world in enumerate(history(seed + 311, 3, 150, KEYS[:6], VALUES[:5])):
                if at % 20 == 0:
                    host = world.host(source.randrange(3))
                    logs.append((host, Log(host), ModelLog(host)))
                    begun.append(host.state()[4])
                for host, log, twin in logs:
                    if source.random() < 0.2:
                        self.assertEqual(log.mark(), twin.mark())
                    if source.random() < 0.2:
                        edition = source.choice((host.state()[4] - source.randrange(30), source.choice(begun), None))
                        answer = log.since(edition)
                        self.assertEqual(answer, twin.since(edition))
                        words[answer[0], bool(answer[2])] += 1
        self.assertEqual(len(words), 4)

    def test_a_log_changes_nothing_at_its_host(self):
        host, twin = Host(0, (1,)), Host(0, (1,))
        log = Log(host)
        for one in (host, twin):
            one.write("a", 1)
        log.since(None)
        self.assertEqual(host.state(), twin.state())
        self.assertEqual(host.tick(), twin.tick())
        host.fall()
        self.assertEqual(log.since(1), ("changes", 1, ()))

    def test_refused(self):
        for value in ODD + (World(2, ()), Host, Host(0, ()).state(), Log(Host(0, ()))):
            self.assertRaises(BadHost, Log, value)


class Mirrors(unittest.TestCase):
    def test_a_new_mirror(self):
        mirror = Mirror()
        self.assertIsNone(mirror.edition)
        self.assertEqual(mirror.table(), ())

    def test_mirrors_that_ask_seldom_and_often(self):
        source, words = chance(320), Counter()
        for seed in range(6):
            mirrors = [(Mirror(), chance_to_ask) for chance_to_ask in (1, 0.5, 0.2, 0.05, 0.02)]
            for at, world in enumerate(history(seed + 321, 3, 200)):
                if at == 0:
                    host = world.host(seed % 3)
                    log = Log(host)
                for mirror, chance_to_ask in mirrors:
                    if source.random() < chance_to_ask:
                        answer = log.since(mirror.edition)
                        self.assertIsNone(mirror.take(answer))
                        self.assertEqual(mirror.table(), rows_of(host.store()))
                        self.assertEqual(mirror.edition, host.state()[4])
                        words[answer[0]] += 1
                    elif source.random() < 0.1:
                        log.mark()
        self.assertGreater(min(words["all"], words["changes"]), 30)

    def test_all_forgets_the_rows_and_changes_do_not(self):
        mirror = Mirror()
        mirror.take(("changes", 5, (("b", (1,)), ("a", (None, "x")))))
        self.assertEqual((mirror.edition, mirror.table()), (5, (("a", (None, "x")), ("b", (1,)))))
        mirror.take(("changes", 4, (("b", (2,)), ("c", (3,)))))
        self.assertEqual((mirror.edition, mirror.table()), (4, (("a", (None, "x")), ("b", (2,)), ("c", (3,)))))
        mirror.take(("changes", 4, (("b", ()), ("q", ()))))
        self.assertEqual((mirror.edition, mirror.table()), (4, (("a", (None, "x")), ("c", (3,)))))
        mirror.take(("all", 0, (("z", ("",)), ("y", ()))))
        self.assertEqual((mirror.edition, mirror.table()), (0, (("z", ("",)),)))
        mirror.take(("changes", TOP, ()))
        self.assertEqual((mirror.edition, mirror.table()), (TOP, (("z", ("",)),)))
        mirror.take(("all", 7, ()))
        self.assertEqual((mirror.edition, mirror.table()), (7, ()))

    def test_rows_one_behind_another(self):
        mirror = Mirror()
        mirror.take(("all", 1, (("a", (1,)), ("a", (2,)), ("b", (1,)), ("b", ()))))
        self.assertEqual(mirror.table(), (("a", (2,)),))

    def test_refused_answers_change_nothing(self):
        mirror = Mirror()
        good = ("changes", 3, (("a", (1,)),))
        mirror.take(good)
        bad = [good[:2], good + (1,), list(good), good[::-1]]
        for at, values in (
            (0, ("", "change", "All", "CHANGES", None, 5, True, (), ["all"], ("all",), {"all": 1})),
            (1, (-1, TOP + 1, True, False, None, "3", (3,), [3])),
            (2, (None, 5, "a", [("a", (1,))], {"a": (1,)}, ("a", (1,)), (("a",),), (("a", (1,), 1),), (["a", (1,)],),
                 (("", (1,)),), (("a" * 41, (1,)),), ((None, (1,)),), ((5, ()),), (("a'", ()),), (("a", [1]),), (("a", None),),
                 (("a", 1),), (("a", "x"),), (("a", (True,)),), (("a", (1, ())),), (("a", (2 ** 40 + 1,)),),
                 (("a", ("x'",)),), (("a", ("x" * 201,)),), (("b", (2,)), None), (("b", (2,)), ("a", (False,))), (((),),))),
        ):
            bad += [good[:at] + (value,) + good[at + 1:] for value in values]
        for answer in ODD + tuple(bad):
            self.assertRaises(BadAnswer, mirror.take, answer)
            self.assertEqual((mirror.edition, mirror.table()), (3, (("a", (1,)),)))

    def test_mirrors_of_one_log(self):
        host = Host(0, ())
        log, one, two = Log(host), Mirror(), Mirror()
        host.write("a", 1)
        one.take(log.since(one.edition))
        self.assertEqual((two.edition, two.table()), (None, ()))
        host.write("b", 2)
        two.take(log.since(two.edition))
        one.take(log.since(one.edition))
        self.assertEqual(one.table(), two.table())


if __name__ == "__main__":
    unittest.main()
