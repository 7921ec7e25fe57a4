"""What the store of a host tells, lot by lot, each number reckoned once (for points 15 and 16)."""

from meetstores.finds import difference_by, is_beyond, told_of
from meetstores.lots import WHOLE, names_of_lot, pair_of_lot
from meetstores.notes import name_in, names_in

# A host tells the same store again and again, at ever new points; the eldest numbers are of no use then.
MOST_KEPT = 4096


class Telling:
    """A host's store of one edition; what has been reckoned of it is kept, for the store never changes."""

    def __init__(self, edition, notes):
        self.edition = edition
        self.notes = notes
        self._names = {}
        self._numbers = {}
        self._held = None

    def names(self, lot):
        """The list of the store's names that are of a lot."""
        if WHOLE not in self._names:
            self._names[WHOLE] = names_in(self.notes)
        if lot not in self._names:
            self._names[lot] = names_of_lot(self._names[WHOLE], lot)
        return self._names[lot]

    def number(self, lot, index):
        """The number that the store's names of a lot tell at the point of an index."""
        place = (lot, index)
        if place not in self._numbers:
            if len(self._numbers) == MOST_KEPT:
                self._numbers = {}
            self._numbers[place] = told_of(self.names(lot), index)
        return self._numbers[place]

    def pair(self, lot, size, tells):
        """What find_lot returns for a size and tells, which surely are good, the store and a lot."""
        names = self.names(lot)
        if is_beyond(size, tells, names):
            return None
        own = [self.number(lot, tell[0]) for tell in tells]
        return pair_of_lot(difference_by(size, tells, names, own), lot)

    def lacking(self, names):
        """The tuple of those of some names that the store has not."""
        if self._held is None:
            self._held = {name: True for name in self.names(WHOLE)}
        held = self._held
        return tuple([name for name in names if name not in held])

    def notes_with(self, names):
        """The list of the store's notes that have one of some names, in the order of the store."""
        asked = {name: True for name in names}
        return [note for note in self.notes if name_in(note) in asked]
