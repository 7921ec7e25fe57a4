"""The errors of meetstores: one class for each kind of failure."""


class StoreError(ValueError):
    """The base class of all errors."""


class BadOctets(StoreError):
    """Not a tuple of octets, or more or fewer than a point lets."""


class BadPlace(StoreError):
    """Not a place in octets, nor the one behind them."""


class BadCount(StoreError):
    """Not a count, or greater than a point lets."""


class BadText(StoreError):
    """Not a text."""


class BadValue(StoreError):
    """Not a value."""


class Short(StoreError):
    """Octets that end before what is read."""


class Wrong(StoreError):
    """Octets that cannot be read; place is where that shows."""

    def __init__(self, place):
        super().__init__(f"wrong at place {place}")
        self.place = place


class BadPoly(StoreError):
    """Not a polynomial, or the polynomial 0 where that has no answer."""


class BadRoots(StoreError):
    """Not a tuple of roots, or not a number to reckon with."""


class BadKey(StoreError):
    """Not a key."""


class BadHost(StoreError):
    """Not the number of a host, or not a host."""


class BadSerial(StoreError):
    """Not a serial, or not one that may come next."""


class BadName(StoreError):
    """Not the name of a note."""


class BadNote(StoreError):
    """Not a note."""


class BadStore(StoreError):
    """Not a store; index is that of the first wrong item, or None."""

    def __init__(self, index):
        super().__init__(f"wrong at index {index}")
        self.index = index


class BadIndex(StoreError):
    """Not the index of a point."""


class BadTells(StoreError):
    """Not tells; index is that of the first wrong item, or None."""

    def __init__(self, index):
        super().__init__(f"wrong at index {index}")
        self.index = index


class BadSize(StoreError):
    """Not the size of a store."""


class BadMessage(StoreError):
    """Not a message between hosts."""


class Unread(StoreError):
    """Octets or blocks that tell nothing."""


class BadHosts(StoreError):
    """Not the hosts that one talks with."""


class BadLinks(StoreError):
    """Not the links of a world."""


class NoLink(StoreError):
    """Two hosts without a link between them."""


class NoFrame(StoreError):
    """Not the place of a frame."""


class TooMany(StoreError):
    """More changed octets than a block may have; most is how many it may."""

    def __init__(self, most):
        super().__init__(f"more than {most} octets changed")
        self.most = most


class BadLine(StoreError):
    """A line that tells no step; index is that of the line."""

    def __init__(self, index):
        super().__init__(f"wrong at index {index}")
        self.index = index


class BadSteps(StoreError):
    """Not the steps of a script; index is that of the first wrong one, or None."""

    def __init__(self, index):
        super().__init__(f"wrong at index {index}")
        self.index = index


class NotText(StoreError):
    """Not a string."""


class Stopped(StoreError):
    """A step that raised an error; index is that of the step."""

    def __init__(self, index):
        super().__init__(f"stopped at index {index}")
        self.index = index


class BadState(StoreError):
    """Not a state that a host could have."""


class BadBlocks(StoreError):
    """Not a tuple of blocks."""


class BadThing(StoreError):
    """Not a thing."""


class BadAmount(StoreError):
    """Not an amount, or one that makes too great or too small a part."""


class BadItem(StoreError):
    """Not an item."""


class BadDesk(StoreError):
    """Not what a desk stands at, or not a desk."""


class Unasked(StoreError):
    """A line that is no question and no order."""


class BadLot(StoreError):
    """Not a lot, or not one that can be parted."""


class BadRoll(StoreError):
    """Not the text of a roll."""


class BadAnswer(StoreError):
    """Not an answer of a log."""


class BadClient(StoreError):
    """Not the number of a client."""


class Waiting(StoreError):
    """An order begun while the one before waits."""


class Behind(StoreError):
    """A host that has not seen what a trip has seen."""


class BadWord(StoreError):
    """Not a word, or not words."""


class BadManner(StoreError):
    """Not a manner to choose by."""
