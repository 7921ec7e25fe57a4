import unittest

from meetstores.errors import BadLine, BadSteps, NotText, Stopped
from meetstores.scripts import read_script, run, write_script
from meetstores.worlds import World
from samples import ODD, chance

SIGNS = "abcdefghijklmnopqrstuvwxyzABCDEFGHIJKLMNOPQRSTUVWXYZ0123456789 .,:;-_/+*()=?!"
MOST = 2 ** 20
BEGIN = ("world", 2, ((0, 1),))
PAIRS = (
    ("world 2", ("world", 2, ())), ("world 0", ("world", 0, ())), ("world 2 0-1", BEGIN),
    ("world 1048576 1048576-0 7-7 0-1", ("world", MOST, ((MOST, 0), (7, 7), (0, 1)))),
)
LINES = (
    ("write 0 'a' none", ("write", 0, "a", None)), ("write 1048576 'a b' #0", ("write", MOST, "a b", 0)),
    ("write 7 ' ' #1099511627776", ("write", 7, " ", 2 ** 40)), ("write 7 'k' #-1", ("write", 7, "k", -1)),
    ("write 7 'k' #-1099511627776", ("write", 7, "k", -2 ** 40)), ("write 1 '?!' ''", ("write", 1, "?!", "")),
    ("write 1 'none' 'none'", ("write", 1, "none", "none")), ("write 1 'a' '  5  '", ("write", 1, "a", "  5  ")),
    ("write 1 '" + "k" * 40 + "' '" + "v" * 200 + "'", ("write", 1, "k" * 40, "v" * 200)),
    ("write 1 'a' '" + SIGNS + "'", ("write", 1, "a", SIGNS)),
    ("show 3 'fruit'", ("show", 3, "fruit")), ("notes 0", ("notes", 0)), ("tick 10", ("tick", 10)),
    ("fall 1048576", ("fall", MOST)), ("cut 0 1", ("cut", 0, 1)), ("heal 1 0", ("heal", 1, 0)), ("lose 5", ("lose", 5)),
    ("double 0", ("double", 0)), ("spoil 1 20 255", ("spoil", 1, 20, 255)), ("deliver 9", ("deliver", 9)),
    ("flush", ("flush",)), ("settle 1000", ("settle", 1000)), ("flight", ("flight",)), ("alike", ("alike",)),
)
BAD_LINES = (
    "", " ", "  ", "flush ", " flush", "flush flush", "flush 1", "Flush", "nope", "'flush'", "flight 0", "alike 'a'", "tick",
    "tick ", "tick  1", "tick 1 ", "tick 1 2", "tick 01", "tick 00", "tick -1", "tick +1", "tick 1048577", "tick 1_0",
    "tick 1.0", "tick #1", "tick '1'", "tick none", "tick 99999999999999999999", "tick 100000000000000000000",
    "tick " + "9" * 5000, "tick 00000000000000000001", "tick \u0661", "tick \u00b2", "tick x", "tick 1\t", "tick\t1",
    "cut 1", "cut 0 1 2", "cut 0-1", "spoil 0 1", "spoil 0 1 2 3", "write", "write 0", "write 0 'a'", "write 0 'a' 'b' 'c'",
    "write 0 a 'b'", "write 0 'a' b", "write 0 '' 'b'", "write 0 '" + "k" * 41 + "' 'b'", "write 0 'a' '" + "v" * 201 + "'",
    "write 0 'a' 'b", "write 0 'a 'b'", "write 0 'a''b'", "write 0 'a' 'b'c", "write 0 'a'  'b'", "write 0 'a' 'b' ",
    "write 0 'a' '", "write 0 'a' '''", "write 0 'a' None", "write 0 'a' NONE", "write 0 'a' #", "write 0 'a' #-",
    "write 0 'a' #-0", "write 0 'a' #00", "write 0 'a' #05", "write 0 'a' #-05", "write 0 'a' #+5", "write 0 'a' #--5",
    "write 0 'a' 5", "write 0 'a' -5", "write 0 'a' #1099511627777", "write 0 'a' #-1099511627777", "write 0 'a' # 5",
    "write 0 'a' #" + "9" * 21, "write 0 'a' #" + "9" * 5000, "write 0 'a' '\u00e9'", "write 0 'a' 'b#'", "write 0 'a#' 'b'",
    "write 0 'a' 'b\tc'", "write 'a' 0 'b'", "write none 'a' 'b'", "show 0", "show 0 a", "show 0 'a' 'b'", "show 0 #5",
    "show 0 none", "show 'a' 0", "settle", "settle 1048577", "deliver 'a'", "\"flush\"", "flush\r", "# flush",
)
BAD_BEGINS = (
    "world", "world ", "world 2 ", "world  2", "world 02", "world -1", "world 1048577", "world 'a'", "world 2 0", "world 2 0-",
    "world 2 -1", "world 2 0-1-2", "world 2 00-1", "world 2 0-01", "world 2 0--1", "world 2 0-1  1-2", "world 2 0 1",
    "world 2 (0-1)", "world 2 0-1048577", "world 2 a-b", "world 2 '0-1'", "world 2 0+1", "world 0-1", "world 2 0-1 ",
    "world 2 0-1,1-2", "world 2 0-" + "9" * 5000,
)
BAD_STEPS = ODD + (
    ("nope",), ("flush", 1), ("flush", None), ["flush"], "flush", ("Flush",), ("tick",), ("tick", -1), ("tick", MOST + 1),
    ("tick", True), ("tick", "1"), ("tick", None), ("tick", (1,)), ("tick", 1, 1), ("cut", 0), ("cut", 0, 1, 2),
    ("cut", (0, 1)), ("spoil", 0, 1), ("spoil", 0, 1, -1), ("write", 0, "a"), ("write", 0, "", 1), ("write", 0, "a" * 41, 1),
    ("write", 0, "'", 1), ("write", 0, "a\n", 1), ("write", 0, None, 1), ("write", 0, 5, 1), ("write", "0", "a", 1),
    ("write", 0, "a", True), ("write", 0, "a", 2 ** 40 + 1), ("write", 0, "a", "b'"), ("write", 0, "a", "v" * 201),
    ("write", 0, "a", ()), ("write", 0, "a", [1]), ("show", 0, ""), ("show", 0), ("show", 0, ["a"]), ("settle", -1),
    ("flight", 0), ("alike", 0), (("flush",),), ([], 1), ({}, 1), ("world",), (None, 1),
)
BAD_WORLDS = (
    ("world",), ("world", 2), ("world", 2, ((0, 1),), 1), ("world", -1, ()), ("world", MOST + 1, ()), ("world", True, ()),
    ("world", "2", ()), ("world", 2, None), ("world", 2, [(0, 1)]), ("world", 2, (0, 1)), ("world", 2, ([0, 1],)),
    ("world", 2, ((0, 1, 2),)), ("world", 2, ((0,),)), ("world", 2, ((0, True),)), ("world", 2, ((0, -1),)),
    ("world", 2, ((0, MOST + 1),)), ("world", 2, ((0, 1), None)), ("world", 2, ((0, "1"),)), ("world", 2, 5),
)


class Reading(unittest.TestCase):
    def bad_line(self, text):
        with self.assertRaises(BadLine) as caught:
            read_script(text)
        return caught.exception.index

    def bad_steps(self, deed, steps):
        with self.assertRaises(BadSteps) as caught:
            deed(steps)
        return caught.exception.index

    def test_each_kind_of_step(self):
        for line, step in PAIRS:
            self.assertEqual(read_script(line), (step,))
            self.assertEqual(write_script((step,)), line)
        for line, step in LINES:
            with self.subTest(line=line):
                self.assertEqual(read_script("world 2 0-1\n" + line), (BEGIN, step))
                self.assertEqual(write_script((BEGIN, step)), "world 2 0-1\n" + line)
        steps = (BEGIN,) + tuple(step for _, step in LINES)
        text = "\n".join(["world 2 0-1"] + [line for line, _ in LINES])
        self.assertEqual(write_script(steps), text)
        self.assertEqual(read_script(text), steps)

    def test_counts_of_as_many_figures_as_may_be(self):
        for count in (0, 9, 10, 99, 999999, 1000000, MOST):
            self.assertEqual(read_script(f"world 2\ntick {count}")[1], ("tick", count))
        for count in (MOST + 1, 10 ** 19, 10 ** 20 - 1, 10 ** 20):
            self.assertEqual(self.bad_line(f"world 2\ntick {count}"), 1)

    def test_lines_that_tell_no_step(self):
        for line in BAD_LINES:
            with self.subTest(line=line[:60]):
                self.assertEqual(self.bad_line("world 2 0-1\nflush\n" + line), 2)
                self.assertEqual(self.bad_line("world 2 0-1\n" + line + "\nflush\n"), 1)
                self.assertEqual(self.bad_line(line), 0)
        for line in BAD_BEGINS:
            with self.subTest(line=line[:60]):
                self.assertEqual(self.bad_line(line), 0)
                self.assertEqual(self.bad_line(line + "\nflush"), 0)

    def test_the_first_line_and_no_other_begins_a_world(self):
        self.assertEqual(self.bad_line("flush"), 0)
        self.assertEqual(self.bad_line("flush\nworld 2"), 0)
        self.assertEqual(self.bad_line("world 2\nflush\nworld 2\nnope"), 2)
        self.assertEqual(self.bad_line("world 2\nnope\nworld 2"), 1)
        self.assertEqual(self.bad_line("world 2\n"), 1)
        self.assertEqual(self.bad_line("\nworld 2"), 0)
        self.assertEqual(self.bad_line("world 2\r\nflush"), 0)

    def test_at_most_200_lines(self):
        lines = ["world 2"] + ["flush"] * 199
        self.assertEqual(read_script("\n".join(lines)), (("world", 2, ()),) + (("flush",),) * 199)
        for more in ("flush", "nope", "", "world 2"):
            self.assertEqual(self.bad_line("\n".join(lines + [more])), 200)
            self.assertEqual(self.bad_line("\n".join(lines + [more] * 100)), 200)
        self.assertEqual(self.bad_line("\n".join(lines[:150] + ["nope"] + lines[150:] + ["flush"])), 150)

    def test_no_text(self):
        for text in ODD:
            if type(text) is not str:
                self.assertRaises(NotText, read_script, text)
            else:
                self.assertEqual(self.bad_line(text), 0)

    def test_values_that_are_no_steps(self):
        for deed in (write_script, run):
            for steps in (None, [], [BEGIN], (), "", {}, 5, True, (BEGIN,) + (("flush",),) * 200, BEGIN[0]):
                self.assertIsNone(self.bad_steps(deed, steps))
            for step in BAD_STEPS:
                self.assertEqual(self.bad_steps(deed, (BEGIN, ("flush",), step, ("nope",))), 2)
                self.assertEqual(self.bad_steps(deed, (step,)), 0)
            for step in BAD_WORLDS:
                self.assertEqual(self.bad_steps(deed, (step, ("flush",))), 0)
                self.assertEqual(self.bad_steps(deed, (BEGIN, step)), 1)
            self.assertEqual(self.bad_steps(deed, (("flush",), BEGIN)), 0)
            self.assertEqual(self.bad_steps(deed, (BEGIN, ("flush",), BEGIN)), 2)
        self.assertEqual(write_script((BEGIN,) + (("flush",),) * 199), "world 2 0-1" + "\nflush" * 199)


def word(value):
    return "none" if value is None else f"'{value}'" if isinstance(value, str) else f"#{value}"


def led(steps):
    """A world led by hand, and what the steps answer."""
    world, answers = World(steps[0][1], steps[0][2]), []
    for step in steps[1:]:
        if step[0] == "show":
            answers.append(" ".join(word(value) for value in world.read(step[1], step[2])))
        elif step[0] == "notes":
            answers.append(" ".join(f"'{key}'@{host}.{serial}={word(value)}"
                                    for key, host, serial, _, value in world.store(step[1])))
        elif step[0] == "flight":
            answers.append(" ".join(f"{one}>{two}:{len(block)}" for one, two, block in world.flight()))
        elif step[0] == "alike":
            answers.append("yes" if world.are_alike() else "no")
        elif step[0] == "settle":
            rounds = world.settle(step[1])
            answers.append("no" if rounds is None else f"{rounds}")
        elif step[0] == "flush":
            world.deliver_all()
        else:
            getattr(world, step[0])(*step[1:])
    return world, tuple(answers)


class Running(unittest.TestCase):
    def same(self, steps):
        world, answers = run(steps)
        other, expected = led(steps)
        self.assertEqual(answers, expected)
        hosts = steps[0][1]
        self.assertEqual([world.state(k) for k in range(hosts)], [other.state(k) for k in range(hosts)])
        self.assertEqual(world.flight(), other.flight())
        self.assertIsInstance(world, World)
        return answers

    def test_each_kind_of_step(self):
        answers = self.same((
            ("world", 3, ((0, 1), (1, 2))), ("alike",), ("flight",), ("show", 0, "a"), ("notes", 0), ("write", 0, "a", None),
            ("write", 1, "a", -5), ("write", 2, "a b", "x  y"), ("show", 0, "a"), ("show", 1, "a"), ("show", 2, "a b"),
            ("notes", 2), ("tick", 0), ("tick", 1), ("flight",), ("double", 0), ("spoil", 0, 3, 7), ("lose", 1),
            ("flight",), ("deliver", 0), ("fall", 1), ("flush",), ("flight",), ("alike",), ("cut", 1, 0), ("settle", 5),
            ("notes", 0), ("notes", 2), ("heal", 0, 1), ("settle", 50), ("alike",), ("notes", 0), ("show", 2, "a"),
        ))
        self.assertEqual(answers[:7], ("yes", "", "", "", "none", "#-5", "'x  y'"))
        self.assertEqual(answers[7], "'a b'@2.1='x  y'")
        self.assertEqual(answers[8].split(" ")[0].split(":")[0], "0>1")
        self.assertIn("no", answers)
        self.assertEqual(answers[-1], "none #-5")
        self.assertEqual(answers[-2], "'a'@0.1=none 'a'@1.1=#-5 'a b'@2.1='x  y'")

    def test_one_step(self):
        world, answers = run((BEGIN,))
        self.assertEqual(answers, ())
        self.assertEqual(world.state(1), (1, (0,), 1, 0, 0, ()))

    def test_scripts_at_random(self):
        source = chance(90)
        for _ in range(8):
            steps = [("world", 3, ((0, 1), (0, 2), (1, 2)))]
            while len(steps) < 60:
                step = source.choice((
                    ("write", source.randrange(3), source.choice("ab"), source.choice((None, 7, "fig"))), ("flush",),
                    ("tick", source.randrange(3)), ("fall", source.randrange(3)), ("show", source.randrange(3), "a"),
                    ("notes", source.randrange(3)), ("settle", source.randrange(4)), ("flight",), ("alike",),
                    ("cut", 0, 2), ("heal", 2, 0), ("lose", 0), ("double", 0), ("deliver", 0), ("spoil", 0, 2, 9),
                ))
                steps.append(step)
                try:
                    led(steps)
                except ValueError:
                    with self.assertRaises(Stopped) as caught:
                        run(tuple(steps) + (("flush",),))
                    self.assertEqual(caught.exception.index, len(steps) - 1)
                    steps.pop()
            self.same(tuple(steps))
            self.assertEqual(read_script(write_script(tuple(steps))), tuple(steps))

    def test_steps_that_cannot_be_done(self):
        for begin in (("world", 0, ()), ("world", 1, ()), ("world", 9, ()), ("world", 2, ((1, 0),)),
                      ("world", 2, ((0, 2),)), ("world", 3, ((1, 2), (0, 1))), ("world", MOST, ())):
            with self.assertRaises(Stopped) as caught:
                run((begin, ("tick", 9)))
            self.assertEqual(caught.exception.index, 0)
        for step in (("write", 2, "a", 1), ("show", 2, "a"), ("notes", 2), ("tick", 2), ("fall", 2), ("cut", 0, 2),
                     ("cut", 1, 1), ("heal", 0, 0), ("heal", 5, 0), ("lose", 0), ("double", 0), ("spoil", 0, 0, 0),
                     ("deliver", 0), ("settle", 1001)):
            for before in (0, 1, 198):
                for behind in ((), (("tick", 9),)):
                    with self.subTest(step=step, before=before), self.assertRaises(Stopped) as caught:
                        run((BEGIN,) + (("alike",),) * before + (step,) + behind[:198 - before])
                    self.assertEqual(caught.exception.index, before + 1)
        for step in (("spoil", 0, 999, 0), ("spoil", 0, 0, 256), ("lose", 1)):
            with self.assertRaises(Stopped) as caught:
                run((BEGIN, ("tick", 0), step))
            self.assertEqual(caught.exception.index, 2)
        spoils = tuple(("spoil", 0, at, octet) for at in range(7) for octet in (200, 100))
        with self.assertRaises(Stopped) as caught:
            run((BEGIN, ("tick", 0)) + spoils)
        self.assertGreaterEqual(caught.exception.index, 2 + 12)

    def test_a_step_that_is_wrong_stops_nothing_but_is_told_first(self):
        with self.assertRaises(BadSteps) as caught:
            run((BEGIN, ("tick", 9), ("nope",)))
        self.assertEqual(caught.exception.index, 2)


if __name__ == "__main__":
    unittest.main()
