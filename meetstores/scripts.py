"""Scripts: steps of a world as lines of text, and what the steps answer (points 20 and 21)."""

from meetstores.errors import BadLine, BadSteps, NotText, Stopped, StoreError
from meetstores.lines import (
    count_told, is_value_word, text_told, text_word, value_told, value_word, value_words, words_of,
)
from meetstores.notes import is_key
from meetstores.octets import is_between, is_value
from meetstores.worlds import World

MOST_STEPS = 200
MOST_COUNT = 1048576
# What belongs to the word of each step but "world".
FORMS = {
    "write": ("count", "key", "value"), "show": ("count", "key"), "notes": ("count",), "tick": ("count",),
    "fall": ("count",), "cut": ("count", "count"), "heal": ("count", "count"), "lose": ("count",),
    "double": ("count",), "spoil": ("count", "count", "count"), "deliver": ("count",), "flush": (),
    "settle": ("count",), "flight": (), "alike": (),
}


def is_count(value):
    """Whether a value is a count in a step."""
    return is_between(value, 0, MOST_COUNT)


def is_part(kind, value):
    """Whether a value is what belongs to a step as a part of a kind."""
    if kind == "count":
        return is_count(value)
    return is_key(value) if kind == "key" else is_value(value)


def is_pair(value):
    """Whether a value is a pair of counts."""
    return type(value) is tuple and len(value) == 2 and is_count(value[0]) and is_count(value[1])


def is_world_step(step):
    """Whether a tuple that begins with its word is a step that begins a world."""
    if len(step) != 3 or not is_count(step[1]) or type(step[2]) is not tuple:
        return False
    return all([is_pair(link) for link in step[2]])


def is_step(value):
    """Whether a value is a step."""
    if type(value) is not tuple or len(value) == 0 or type(value[0]) is not str:
        return False
    if value[0] == "world":
        return is_world_step(value)
    if value[0] not in FORMS or len(value) - 1 != len(FORMS[value[0]]):
        return False
    return all([is_part(kind, part) for kind, part in zip(FORMS[value[0]], value[1:])])


def check_steps(steps):
    """Raise the error of a value that is not the steps of a script."""
    if type(steps) is not tuple or not 1 <= len(steps) <= MOST_STEPS:
        raise BadSteps(None)
    for index, step in enumerate(steps):
        if not is_step(step) or (step[0] == "world") != (index == 0):
            raise BadSteps(index)


def part_word(kind, part):
    """The word that tells a part of a kind."""
    if kind == "count":
        return str(part)
    return text_word(part) if kind == "key" else value_word(part)


def line_of(step):
    """The line that tells what surely is a step."""
    if step[0] == "world":
        words = [str(step[1])] + [f"{one}-{two}" for one, two in step[2]]
    else:
        words = [part_word(kind, part) for kind, part in zip(FORMS[step[0]], step[1:])]
    return " ".join([step[0]] + words)


def is_part_word(kind, word):
    """Whether a word tells a part of a kind."""
    if kind == "count":
        return is_count(count_told(word))
    return is_key(text_told(word)) if kind == "key" else is_value_word(word)


def part_told(kind, word):
    """The part of a kind that is told by what surely is a word of it."""
    if kind == "count":
        return count_told(word)
    return text_told(word) if kind == "key" else value_told(word)


def link_told(word):
    """The pair of counts that a word like "0-1" tells, or None."""
    one, _, two = word.partition("-")
    pair = (count_told(one), count_told(two))
    return pair if is_pair(pair) else None


def world_told(words):
    """The step that begins a world, told by its words, or None."""
    if len(words) < 2 or not is_part_word("count", words[1]):
        return None
    links = tuple([link_told(word) for word in words[2:]])
    return ("world", count_told(words[1]), links) if None not in links else None


def step_told(line):
    """The step that a line tells, or None."""
    words = words_of(line)
    if words is None:
        return None
    if words[0] == "world":
        return world_told(words)
    if words[0] not in FORMS or len(words) - 1 != len(FORMS[words[0]]):
        return None
    form = FORMS[words[0]]
    if not all([is_part_word(kind, word) for kind, word in zip(form, words[1:])]):
        return None
    return (words[0],) + tuple([part_told(kind, word) for kind, word in zip(form, words[1:])])


def note_word(note):
    """The word that tells a note of a store."""
    key, host, serial, _, value = note
    return f"{text_word(key)}@{host}.{serial}={value_word(value)}"


def do_step(world, step):
    """Do in a world what surely is a step that answers nothing."""
    word = step[0]
    if word == "write":
        world.write(step[1], step[2], step[3])
    elif word == "tick":
        world.tick(step[1])
    elif word == "fall":
        world.fall(step[1])
    elif word == "cut":
        world.cut(step[1], step[2])
    elif word == "heal":
        world.heal(step[1], step[2])
    elif word == "lose":
        world.lose(step[1])
    elif word == "double":
        world.double(step[1])
    elif word == "spoil":
        world.spoil(step[1], step[2], step[3])
    elif word == "deliver":
        world.deliver(step[1])
    else:
        world.deliver_all()


def answer(world, step):
    """Do in a world what surely is a step that begins none; what it answers, None if that is nothing."""
    word = step[0]
    if word == "show":
        return value_words(world.read(step[1], step[2]))
    if word == "notes":
        return " ".join([note_word(note) for note in world.store(step[1])])
    if word == "flight":
        return " ".join([f"{sender}>{taker}:{len(block)}" for sender, taker, block in world.flight()])
    if word == "alike":
        return "yes" if world.are_alike() else "no"
    if word == "settle":
        rounds = world.settle(step[1])
        return str(rounds) if rounds is not None else "no"
    do_step(world, step)
    return None


def begun(step):
    """The world that what surely is the first step of a script begins."""
    try:
        return World(step[1], step[2])
    except StoreError:
        raise Stopped(0) from None


def answered(world, step, index):
    """What a step that stands at an index answers, None if that is nothing."""
    try:
        return answer(world, step)
    except StoreError:
        raise Stopped(index) from None


def write_script(steps):
    """The text that tells the steps of a script."""
    check_steps(steps)
    return "\n".join([line_of(step) for step in steps])


def read_script(text):
    """The steps of the script that a text tells."""
    if type(text) is not str:
        raise NotText("not a string")
    steps = []
    for index, line in enumerate(text.split("\n")):
        step = step_told(line)
        if index == MOST_STEPS or step is None or (step[0] == "world") != (index == 0):
            raise BadLine(index)
        steps.append(step)
    return tuple(steps)


def run(steps):
    """Do the steps of a script; the pair of the world that they lead to and the tuple of all that is answered."""
    check_steps(steps)
    world = begun(steps[0])
    answers = []
    for index in range(1, len(steps)):
        told = answered(world, steps[index], index)
        if told is not None:
            answers.append(told)
    return world, tuple(answers)
