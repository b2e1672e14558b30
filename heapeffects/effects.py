"""Effects: what programs do to every heap."""

from heapeffects.bags import check_bag, difference, is_bag, size_of, smallest, union, without_smallest
from heapeffects.errors import EmptyHeap, InvalidEffect
from heapeffects.integers import check_count, check_number, is_count
from heapeffects.programs import check_program
from heapeffects.triples import IDENTITY, triple_of


class Effect:
    """The inserted bag, the number of removals and the surviving bag of a program."""

    PARTS = ("inserted", "removals", "survivors")

    def __init__(self, inserted, removals, survivors):
        check_bag(inserted)
        check_count(removals)
        check_bag(survivors)
        part = _wrong_part(inserted, removals, survivors)
        if part is not None:
            raise InvalidEffect(part)
        self._inserted = inserted
        self._removals = removals
        self._survivors = survivors
        self._consumed = difference(inserted, survivors)
        self._needed = removals - size_of(self._consumed)

    @staticmethod
    def is_valid(inserted, removals, survivors):
        """Whether any values make an effect."""
        if not is_bag(inserted) or not is_count(removals) or not is_bag(survivors):
            return False
        return _wrong_part(inserted, removals, survivors) is None

    @classmethod
    def of(cls, program):
        """The effect of a program."""
        check_program(program)
        inserted, removals, survivors = triple_of(program)
        return cls(inserted, removals, survivors)

    @classmethod
    def identity(cls):
        """The effect of the empty program."""
        return cls(IDENTITY[0], IDENTITY[1], IDENTITY[2])

    @property
    def inserted(self):
        """The bag of all inserted numbers."""
        return self._inserted

    @property
    def removals(self):
        """How many removals there are."""
        return self._removals

    @property
    def survivors(self):
        """The bag of the inserted numbers that are left if all others in the heap are greater."""
        return self._survivors

    @property
    def consumed(self):
        """The bag of the inserted numbers without the survivors."""
        return self._consumed

    @property
    def needed(self):
        """How many numbers a heap must hold at least."""
        return self._needed

    def apply(self, bag):
        """What becomes of a heap."""
        left = without_smallest(self._exposed(bag), self._removals)
        return union(left, self._survivors)

    def removed(self, bag):
        """The bag of the numbers that are removed from a heap."""
        return smallest(self._exposed(bag), self._removals)

    def _exposed(self, bag):
        """The heap together with the consumed numbers: what the removals take from."""
        if size_of(bag) < self._needed:
            raise EmptyHeap(None)
        return union(bag, self._consumed)

    def normal(self):
        """The normal program of the effect."""
        removal = (("remove", self._removals),) if self._removals > 0 else ()
        return _insertions(self._consumed) + removal + _insertions(self._survivors)

    def moved(self, number):
        """The effect with a number added to all inserted numbers."""
        check_number(number)
        return Effect(_moved(self._inserted, number), self._removals, _moved(self._survivors, number))

    def __eq__(self, other):
        return (isinstance(other, Effect) and self._inserted == other._inserted
                and self._removals == other._removals and self._survivors == other._survivors)

    def __repr__(self):
        return f"Effect({self._inserted}, {self._removals}, {self._survivors})"


def check_effect(effect):
    if not isinstance(effect, Effect):
        raise InvalidEffect("effect")


def _wrong_part(inserted, removals, survivors):
    """Which part keeps two bags and a count from making an effect, or None."""
    consumed = difference(inserted, survivors)
    if consumed is None:
        return "survivors"
    if removals < size_of(consumed):
        return "removals"
    return None


def _insertions(bag):
    """One step for each number of the bag."""
    return tuple([("insert", number, count) for number, count in bag])


def _moved(bag, number):
    return tuple([(each + number, count) for each, count in bag])
