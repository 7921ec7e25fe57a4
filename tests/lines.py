"""Frames and messages as tests make and read them."""

from meetstores.messages import read_message, write_message
from meetstores.pieces import Gatherer, cut


def blocks_of(message, serial=5):
    """The blocks in which a message between hosts is sent."""
    return cut(serial, write_message(message))


def told(frames):
    """The messages, in the order in which they are whole, of frames of one host: (peer, serial, message)."""
    gatherers, messages = {}, []
    for peer, block in frames:
        whole = gatherers.setdefault(peer, Gatherer()).take(block)
        if whole is not None:
            messages.append((peer, whole[0], read_message(whole[1])))
    return messages


def messages_in(frames):
    """The messages of frames of one host, without peers and serials."""
    return [message for _, _, message in told(frames)]


def give(host, peer, message, serial=5):
    """Let a message come to a host; the messages that it sends back."""
    frames = ()
    for block in blocks_of(message, serial):
        frames += host.take(peer, block)
    return messages_in(frames)


def give_all(host, peer, frames):
    """Let frames of a peer come to a host, in order; the frames that it sends back."""
    back = ()
    for _, block in frames:
        back += host.take(peer, block)
    return back
