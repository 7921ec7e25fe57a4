"""Worlds led through any history, for tests that look at what their hosts have."""

from meetstores.worlds import World
from samples import chance

KEYS = ("a", "b", "ab", "B", "a1", "1", "z z", "?", "visits+0", "visits+1", "visits+2", "bag/pen", "bag/cup", "k" * 40)
VALUES = (None, None, None, 0, -7, 5, 2 ** 40, -2 ** 40, "", "fig", "red fig", "a", "Red,fig;12", "fig-fig")


def history(seed, hosts=3, steps=60, keys=KEYS, values=VALUES):
    """The same world behind each step of a history: writes, most of them at the same keys, before the hosts talk;
    ticks, falls, and frames lost, doubled and delivered."""
    source = chance(seed)
    world = World(hosts, tuple((k, k + 1) for k in range(hosts - 1)))
    for at in range(steps):
        if at % 12 == 0:
            few = source.sample(keys, min(3, len(keys)))
        deed, flight = source.choice("w" if at % 12 < 6 else "wttddldfss"), world.flight()
        if deed == "w":
            world.write(source.randrange(hosts), source.choice(few), source.choice(values))
        elif deed == "t":
            world.tick(source.randrange(hosts))
        elif deed == "f":
            world.fall(source.randrange(hosts))
        elif deed == "s":
            world.settle(source.randrange(8))
        elif flight:
            place = source.randrange(len(flight))
            (world.lose if deed == "l" else world.double if source.random() < 0.1 else world.deliver)(place)
        yield world


def stores_of(seed, hosts=3, steps=60, keys=KEYS, values=VALUES):
    """All the stores that the hosts of a history had, each once, in the order in which they came to be."""
    seen = {(): None}
    for world in history(seed, hosts, steps, keys, values):
        for number in range(hosts):
            seen.setdefault(world.store(number))
    return list(seen)


def table_of(store):
    """The values of each key of a store, looked at note by note."""
    table = {}
    for key, _, _, _, value in store:
        table[key] = table.get(key, ()) + (value,)
    return table


def rows_of(store):
    """The pairs of each key of a store and its values, ascending."""
    return tuple(sorted(table_of(store).items()))
