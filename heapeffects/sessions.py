"""Sessions: heaps that several users share, and whose programs can be undone in any order."""

from heapeffects.algebra import compose
from heapeffects.bags import check_bag, size_of
from heapeffects.errors import EmptyHeap, InvalidUser, NothingToUndo
from heapeffects.failures import effect_on

LETTERS = "abcdefghijklmnopqrstuvwxyz"
LONGEST_USER = 8


class Session:
    """A heap that several users share, with the programs that they ran."""

    def __init__(self, bag=()):
        check_bag(bag)
        # What the heap held at the beginning and after each entry.
        self._heaps = [bag]
        self._entries = []
        # The effects of the entries.
        self._effects = []

    @property
    def contents(self):
        """The bag of everything in the heap."""
        return self._heaps[-1]

    @property
    def entries(self):
        """The list of the entries in order."""
        return list(self._entries)

    def run(self, user, program):
        """Run a program completely or not at all; the bag of what was removed."""
        _check_user(user)
        bag = self._heaps[-1]
        effect = effect_on(size_of(bag), program)
        removed = effect.removed(bag)
        self._heaps.append(effect.apply(bag))
        self._entries.append((user, program))
        self._effects.append(effect)
        return removed

    def undo(self, user):
        """Remove the last entry of a user, as if it had never been made; its program."""
        _check_user(user)
        places = [index for index, entry in enumerate(self._entries) if entry[0] == user]
        if not places:
            raise NothingToUndo()
        at = places[-1]
        later = _heaps_after(self._heaps[at], self._effects[at + 1:], at)
        program = self._entries[at][1]
        self._heaps = self._heaps[:at + 1] + later
        self._entries = self._entries[:at] + self._entries[at + 1:]
        self._effects = self._effects[:at] + self._effects[at + 1:]
        return program

    def effect(self, user):
        """The composition of the effects of a user's entries."""
        _check_user(user)
        effects = [effect for entry, effect in zip(self._entries, self._effects) if entry[0] == user]
        return compose(*effects)

    def copy(self):
        """An independent session with the same beginning and the same entries."""
        twin = Session(self._heaps[0])
        twin._heaps = list(self._heaps)
        twin._entries = list(self._entries)
        twin._effects = list(self._effects)
        return twin

    def __eq__(self, other):
        return isinstance(other, Session) and self._heaps[0] == other._heaps[0] and self._entries == other._entries


def _check_user(user):
    if not isinstance(user, str) or len(user) < 1 or len(user) > LONGEST_USER:
        raise InvalidUser(user)
    if not all([letter in LETTERS for letter in user]):
        raise InvalidUser(user)


def _heaps_after(bag, effects, first):
    """What a heap holds after each of these effects, which belong to entries counted from first."""
    heaps = []
    left = bag
    for index, effect in enumerate(effects):
        if size_of(left) < effect.needed:
            raise EmptyHeap(first + index)
        left = effect.apply(left)
        heaps.append(left)
    return heaps
