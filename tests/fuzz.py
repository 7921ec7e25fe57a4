"""Hosts and their models led side by side over a bad line, in phases of writes and of talk."""

from collections import Counter

from meetstores.hosts import Host
from meetstores.messages import message_in, write_message
from meetstores.pieces import Gatherer, cut
from model import ModelHost
from samples import PRIME, chance, spoiled


class Pair:
    """A host and its model: what is done at the one is done at the other, and must be answered alike."""

    def __init__(self, test, number, peers):
        self.test, self.host, self.model = test, Host(number, peers), ModelHost(number, peers)

    def same(self, one, two):
        self.test.assertEqual(one, two)
        self.test.assertEqual(self.host.state(), self.model.state())
        return one

    def write(self, key, value):
        self.same(self.host.write(key, value), self.model.write(key, value))

    def fall(self):
        self.same(self.host.fall(), self.model.fall())

    def tick(self):
        return self.same(self.host.tick(), self.model.tick())

    def take(self, peer, block):
        return self.same(self.host.take(peer, block), self.model.take(peer, block))


def made_up(pairs, source):
    """A message that may come as that of a host, with what belongs to it at random."""
    edition = max(0, source.choice(pairs).host.state()[4] - source.choice((0, 0, 0, 1)))
    level = source.choice((0, 0, 1, 2, 3, 20))
    lot = (level, source.randrange(2 ** level))
    names = {source.randrange(1, 40) + source.randrange(len(pairs)) * 2 ** 27 for _ in range(source.randrange(1, 6))}
    return source.choice((
        ("part", edition, lot), ("done", edition, lot), ("all",), ("ask", edition, tuple(sorted(names))),
        ("number", edition, lot, source.randrange(60), source.randrange(99), source.randrange(1, PRIME)),
        ("notes", source.choice(pairs).host.store()[:3] or (("a", 7, 1, (0,) * 8, "a"),)),
    ))


def lead(test, seed, hosts, phases, loss):
    """Lead hosts through phases; how many messages of each word they have sent."""
    source, sent, flight, gatherers = chance(seed), Counter(), [], {}
    pairs = [Pair(test, k, tuple(j for j in range(hosts) if j != k)) for k in range(hosts)]

    def send(number, frames):
        for peer, block in frames:
            whole = gatherers.setdefault((number, peer), Gatherer()).take(block)
            if whole is not None:
                sent[message_in(whole[1])[0]] += 1
            flight.append((number, peer, block))

    for writes, ticks in phases:
        for _ in range(writes):
            key = source.choice("abcdefgh") + str(source.randrange(12))
            source.choice(pairs).write(key, source.choice((None, 5, "x" * source.randrange(200))))
        for _ in range(ticks):
            if source.random() < 0.02:
                source.choice(pairs).fall()
            if source.random() < 0.05:
                one, two = source.sample(range(hosts), 2)
                flight.extend((one, two, block) for block in
                              cut(source.randrange(2 ** 40), write_message(made_up(pairs, source))))
            for number, pair in enumerate(pairs):
                send(number, pair.tick())
            for _ in range(source.choice((0, 30, 300))):
                if flight:
                    place = 0 if source.random() < 0.8 else source.randrange(len(flight))
                    sender, taker, block = flight.pop(place)
                    chances = source.random()
                    if chances < 2 * loss:
                        flight.append((sender, taker, block))
                    if chances < loss:
                        continue
                    if chances > 1 - 2 * loss:
                        block = spoiled(block, source.randrange(1, 7), source)
                    send(taker, pairs[taker].take(sender, block))
    return sent
