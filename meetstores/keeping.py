"""What a host keeps, as guarded blocks (point 22)."""

from meetstores.errors import BadBlocks, BadState, BadStore, Short, Unread, Wrong
from meetstores.guard import block_of, is_block, octets_of
from meetstores.hosts import Host, is_peers
from meetstores.messages import counts_from, counts_octets, is_edition, note_octets, notes_from
from meetstores.notes import MOST_SERIAL, check_store, is_host, last_serial
from meetstores.octets import count_from, is_between

KEPT_IN_BLOCK = 90
MOST_LIFE = 1048575


def is_kept_store(value, number, serial):
    """Whether a value is a store that the host with a number may have behind a serial."""
    try:
        check_store(value)
    except BadStore:
        return False
    return last_serial(value, number) <= serial


def is_state(value):
    """Whether a value is a state that a host could have."""
    if type(value) is not tuple or len(value) != 6:
        return False
    number, peers, life, serial, edition, store = value
    if not is_host(number) or not is_peers(peers, number):
        return False
    if not is_between(life, 1, MOST_LIFE) or not is_between(serial, 0, MOST_SERIAL) or not is_edition(edition):
        return False
    return is_kept_store(store, number, serial)


def state_octets(state):
    """The octets of what surely is a state."""
    number, peers, life, serial, edition, store = state
    octets = list(counts_octets((number, len(peers)) + peers + (life, serial, edition, len(store))))
    for note in store:
        octets.extend(note_octets(note))
    return tuple(octets)


def state_from(octets):
    """What stands as a state at the beginning of octets, be it one or not, and the place behind it."""
    number, at = count_from(octets, 0)
    many, at = count_from(octets, at)
    peers = []
    # However great the count is, this ends where the octets do.
    while len(peers) < many:
        peer, at = count_from(octets, at)
        peers.append(peer)
    (life, serial, edition), at = counts_from(octets, at, 3)
    store, behind = notes_from(octets, at)
    return (number, tuple(peers), life, serial, edition, store), behind


def parted(octets):
    """Octets cut into lots, in a list."""
    return [octets[at:at + KEPT_IN_BLOCK] for at in range(0, len(octets), KEPT_IN_BLOCK)]


def state_in(lots):
    """The state whose octets are cut into just these lots, or None."""
    octets = tuple([octet for lot in lots for octet in lot])
    try:
        state, behind = state_from(octets)
    except (Short, Wrong):
        return None
    if behind < len(octets) or parted(octets) != lots or not is_state(state):
        return None
    return state


def is_blocks(value):
    """Whether a value is a tuple of blocks."""
    if type(value) is not tuple:
        return False
    return all([is_block(block) for block in value])


def keep(state):
    """The tuple of the blocks that keep a state."""
    if not is_state(state):
        raise BadState("not a state of a host")
    return tuple([block_of(lot) for lot in parted(state_octets(state))])


def restore(blocks):
    """The state that was kept as some blocks."""
    if not is_blocks(blocks):
        raise BadBlocks("not a tuple of blocks of 9 to 108 octets")
    lots = [octets_of(block) for block in blocks]
    state = state_in(lots) if None not in lots else None
    if state is None:
        raise Unread("not the blocks of a state")
    return state


def risen(state):
    """The host that rises with a state, its life 1 more."""
    if not is_state(state) or state[2] == MOST_LIFE:
        raise BadState("not a state that a host can rise with")
    number, peers, life, serial, edition, store = state
    host = Host(number, peers)
    host.rise(life + 1, serial, edition, store)
    return host
