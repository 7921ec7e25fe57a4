"""A second host, reckoned step by step as points 14 to 16 tell it, with nothing kept that can be reckoned again."""

from meetstores.lots import find_lot, halves
from meetstores.messages import read_message, write_message
from meetstores.pieces import Gatherer, cut
from meetstores.errors import Unread
from samples import NO_PAST, number_told

WHOLE = (0, 0)
SAME = ((), ())


def name(note):
    return note[1] * 2 ** 27 + note[2]


def is_covering(one, two):
    return one[0] == two[0] and two[2] <= one[3][two[1]]


def together(store, notes):
    """A store and notes together, as merged takes them."""
    chosen = {}
    for note in tuple(store) + tuple(notes):
        if note[:2] not in chosen or chosen[note[:2]][2] < note[2]:
            chosen[note[:2]] = note
    kept = [one for one in chosen.values()
            if not any(two != one and is_covering(two, one) for two in chosen.values())]
    return tuple(sorted(kept, key=lambda note: note[:2]))


def in_messages(notes):
    """Notes in messages of as many as fit."""
    groups = []
    for note in notes:
        many = len(write_message(("notes", (note,)))) - 2
        if not groups or len(groups[-1][1]) == 40 or groups[-1][0] + many > 3990:
            groups.append([0, []])
        groups[-1][0] += many
        groups[-1][1].append(note)
    return [("notes", tuple(group)) for _, group in groups]


def has_all_names(lot, other):
    """Whether the names of a lot are all names of another one."""
    return lot[0] >= other[0] and lot[1] % 2 ** other[0] == other[1]


class ModelTalk:
    def __init__(self):
        self.gatherer = Gatherer()
        self.edition = None
        self.sizes = {}
        self.numbers = {}
        self.wanted = []
        self.even = False
        self.lots = [WHOLE]
        self.index = 0
        self.hurry()

    def hurry(self):
        self.even, self.gap, self.wait = False, 1, 1


class ModelHost:
    def __init__(self, number, peers):
        self.number, self.peers, self.life, self.serial, self.edition, self.notes = number, peers, 1, 0, 0, ()
        self.rise()

    def rise(self):
        self.sent = 0
        self.talks = {peer: ModelTalk() for peer in self.peers}

    def fall(self):
        self.life += 1
        self.rise()

    def state(self):
        return self.number, self.peers, self.life, self.serial, self.edition, self.notes

    def become(self, notes):
        if notes != self.notes:
            self.notes = notes
            self.edition += 1
            for talk in self.talks.values():
                talk.hurry()

    def write(self, key, value):
        self.serial += 1
        past = list(NO_PAST)
        for note in self.notes:
            if note[0] == key:
                past = [max(one, two) for one, two in zip(past, note[3])]
        for note in self.notes:
            if note[0] == key:
                past[note[1]] = max(past[note[1]], note[2])
        left = [note for note in self.notes if note[0] != key]
        self.become(tuple(sorted(left + [(key, self.number, self.serial, tuple(past), value)],
                                 key=lambda note: note[:2])))

    def send(self, peer, messages):
        frames = []
        for message in messages:
            frames += [(peer, block) for block in cut(self.life * 2 ** 20 + self.sent, write_message(message))]
            self.sent += 1
        return tuple(frames)

    def tick(self):
        frames = ()
        for peer in sorted(self.peers):
            talk = self.talks[peer]
            talk.wait -= 1
            if talk.wait > 0:
                continue
            talk.gap = min(16, 2 * talk.gap) if talk.even else 1
            talk.wait = talk.gap
            messages = []
            for lot in sorted(talk.lots):
                names = [name(note) for note in self.notes if name(note) % 2 ** lot[0] == lot[1]]
                messages.append(("number", self.edition, lot, len(names), talk.index, number_told(names, talk.index)))
            if talk.index % 64 == 63:
                messages += in_messages(self.notes)
            talk.index = (talk.index + 1) % 2 ** 20
            frames += self.send(peer, messages)
        return frames

    def take(self, peer, block):
        talk = self.talks[peer]
        whole = talk.gatherer.take(block)
        if whole is None:
            return ()
        try:
            message = read_message(whole[1])
        except Unread:
            return ()
        return self.send(peer, getattr(self, "take_" + message[0])(talk, *message[1:]))

    def with_names(self, names):
        return in_messages([note for note in self.notes if name(note) in names])

    def asks(self, talk):
        return [("ask", talk.edition, tuple(talk.wanted[at:at + 100])) for at in range(0, len(talk.wanted), 100)]

    def difference(self, talk, lot):
        return find_lot(talk.sizes[lot], tuple(sorted(talk.numbers[lot].items())), self.notes, lot)

    def take_number(self, talk, edition, lot, size, index, number):
        if talk.edition is None or edition > talk.edition:
            talk.edition, talk.sizes, talk.numbers = edition, {}, {}
        if edition == talk.edition:
            talk.sizes.setdefault(lot, size)
            kept = talk.numbers.setdefault(lot, {})
            if len(kept) < 24:
                kept[index] = number
        if lot not in talk.numbers:
            return []
        found = self.difference(talk, lot)
        if found == SAME and lot == WHOLE:
            talk.even, talk.wanted = True, []
            return []
        if talk.even:
            talk.hurry()
        if found is None and len(talk.numbers[lot]) == 24:
            return self.take_all(talk, True) if lot[0] == 20 else [("part", talk.edition, lot)]
        if found is None:
            held = [name(note) for note in self.notes]
            talk.wanted = [wanted for wanted in talk.wanted if wanted not in held]
            return self.asks(talk)
        return ([("done", talk.edition, lot)] if found == SAME else []) + self.pairs(talk)

    def pairs(self, talk):
        found = {lot: self.difference(talk, lot) for lot in talk.numbers}
        for lot in found:
            if found[lot] is None and len(talk.numbers[lot]) < 24:
                if not any(found[other] is not None and has_all_names(lot, other) for other in found):
                    return []
        more = sorted({one for pair in found.values() if pair is not None for one in pair[0]})
        less = sorted({one for pair in found.values() if pair is not None for one in pair[1]})
        if not more and not less:
            return []
        talk.wanted = more
        return self.asks(talk) + self.with_names(less)

    def take_ask(self, talk, edition, names):
        held = [name(note) for note in self.notes]
        if edition == self.edition and any(one not in held for one in names):
            return self.take_all(talk, True)
        return self.with_names(names)

    def take_all(self, talk, asks_too=False):
        return ([("all",)] if asks_too else []) + in_messages(self.notes)

    def take_notes(self, talk, notes):
        self.become(together(self.notes, notes))
        return []

    def take_part(self, talk, edition, lot):
        if edition == self.edition and lot in talk.lots and lot[0] < 20 and len(talk.lots) < 64:
            talk.lots = [other for other in talk.lots if other != lot] + list(halves(lot))
        return []

    def take_done(self, talk, edition, lot):
        if edition == self.edition and lot in talk.lots and lot != WHOLE:
            talk.lots = [other for other in talk.lots if other != lot] or [WHOLE]
        return []
