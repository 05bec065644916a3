"""Houses, which keep webs, price rows and promises, and do no deal that would break a promise."""

from otherpace.changes import changed, is_change
from otherpace.errors import BadChange, BadPromise, NoName, NothingToRedo, NothingToUndo, PaceError, Unkept
from otherpace.housetexts import kept_of, lines_of
from otherpace.promises import fault_holds_in, first_unkept, is_key, is_promise_in, judged_in


def kept_after(kept, changes):
    """What is kept after changes, one after the other; raises BadChange as House.deal does."""
    if not isinstance(changes, tuple):
        raise BadChange(-1)
    found = kept
    for number, change in enumerate(changes):
        if not is_change(change):
            raise BadChange(number)
        try:
            found = changed(found, change)
        except PaceError:
            raise BadChange(number) from None
    return found


class House:
    """Webs and price rows by names, promises about them, and the deals that were done."""

    def __init__(self):
        # As in promises.py; it is replaced as a whole, so that former ones stay as they were.
        self._kept = ({}, {}, ())
        # Pairs of a deal and of what was kept before it, or is kept after it.
        self._behind = []
        self._ahead = []

    def __eq__(self, other):
        return isinstance(other, House) and self._kept == other._kept

    def __str__(self):
        return "\n".join(lines_of(self._kept))

    def copy(self):
        """An equal house with the same deals, done and undone."""
        other = House()
        other._kept = self._kept
        other._behind = list(self._behind)
        other._ahead = list(self._ahead)
        return other

    @classmethod
    def read(cls, text):
        """The house whose text this is, without deals."""
        house = cls()
        house._kept = kept_of(text)
        return house

    def names(self):
        """The ascending tuple of all names."""
        webs, rows, _ = self._kept
        return tuple(sorted(list(webs) + list(rows)))

    def web(self, name):
        """The web that a name stands for."""
        if not is_key(self._kept[0], name):
            raise NoName(name)
        return self._kept[0][name]

    def prices(self, name):
        """The pair of the name of a web and the price row about it that a name stands for."""
        if not is_key(self._kept[1], name):
            raise NoName(name)
        return self._kept[1][name]

    def promises(self):
        """The tuple of the promises, in the order in which they were given."""
        return self._kept[2]

    def deals(self):
        """The tuple of the deals that were done, in their order."""
        return tuple([deal for deal, _ in self._behind])

    def deal(self, changes):
        """Do a deal: all its changes, one after the other, if all promises are kept after them."""
        self._take(changes, kept_after(self._kept, changes))

    def change(self, change):
        """Do a deal of one change."""
        if not is_change(change):
            raise BadChange(0)
        self._take((change,), changed(self._kept, change))

    def _take(self, changes, kept):
        """Record a deal after which this is kept, if all promises are kept."""
        unkept = first_unkept(kept)
        if unkept:
            raise Unkept(unkept[0], unkept[1])
        self._behind.append((changes, self._kept))
        self._ahead = []
        self._kept = kept

    def would(self, changes):
        """The first promise that would not be kept after a deal, None if all would be."""
        unkept = first_unkept(kept_after(self._kept, changes))
        return unkept[0] if unkept else None

    def undo(self):
        """Undo the last deal."""
        if not self._behind:
            raise NothingToUndo()
        changes, kept = self._behind.pop()
        self._ahead.append((changes, self._kept))
        self._kept = kept

    def redo(self):
        """Do the deal again that was undone last."""
        if not self._ahead:
            raise NothingToRedo()
        changes, kept = self._ahead.pop()
        self._behind.append((changes, self._kept))
        self._kept = kept

    def judged(self, promise):
        """("kept",), or a fault that shows that a promise, given or not, is not kept."""
        if not is_promise_in(self._kept, promise):
            raise BadPromise(promise)
        return judged_in(self._kept, promise)

    def _is_fault(self, promise, thing):
        """Whether any value is a fault of any value that is a promise."""
        return is_promise_in(self._kept, promise) and fault_holds_in(self._kept, promise, thing)


def promise_fault_holds(house, promise, thing):
    """Whether any value is a fault of a promise; False if this is no promise for the house."""
    return house._is_fault(promise, thing)
