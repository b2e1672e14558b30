"""Heaps: contents that change, with a record or a capacity if wanted, and programs followed step by step."""

from heapeffects.bags import bag_of, check_bag, cut, size_of, times, union, with_one, without_one
from heapeffects.errors import EmptyHeap, NothingToUndo
from heapeffects.failures import effect_on
from heapeffects.integers import check_capacity, check_count, check_number
from heapeffects.programs import expand

LONGEST_BOUNDED_RUN = 10000


def heaps_along(bag, program, *, limit=1000):
    """Yield what the heap holds before the first elementary step and after each."""
    check_bag(bag)
    steps = expand(program, limit=limit)
    left = bag
    yield left
    for index, step in enumerate(steps):
        left = _after(left, step, index)
        yield left


def removed_along(bag, program, *, limit=1000):
    """Yield the removed numbers one by one."""
    check_bag(bag)
    steps = expand(program, limit=limit)
    left = bag
    for index, step in enumerate(steps):
        following = _after(left, step, index)
        if step[0] == "remove":
            yield left[0][0]
        left = following


def _after(bag, step, index):
    """What a heap holds after the elementary step that has this index."""
    if step[0] == "insert":
        return with_one(bag, step[1])
    if not bag:
        raise EmptyHeap(index)
    return without_one(bag, bag[0][0])


class Heap:
    """A heap whose contents change."""

    def __init__(self, bag=()):
        check_bag(bag)
        self._bag = bag

    @classmethod
    def of(cls, *numbers):
        """A heap of these numbers."""
        return cls(bag_of(list(numbers)))

    @property
    def contents(self):
        """The bag of everything in the heap."""
        return self._bag

    @property
    def size(self):
        """How many numbers the heap holds, each counted as often as it occurs."""
        return size_of(self._bag)

    @property
    def smallest(self):
        """The smallest number, or None if the heap is empty."""
        if not self._bag:
            return None
        return self._bag[0][0]

    def push(self, number, *, count=1):
        """Insert a number so often."""
        check_number(number)
        check_count(count)
        self._bag = union(self._bag, times(((number, 1),), count))

    def remove_smallest(self, *, count=1):
        """Remove the smallest number so often; the bag of what was removed."""
        check_count(count)
        if self.size < count:
            raise EmptyHeap(self.size)
        removed, left = cut(self._bag, count)
        self._bag = left
        return removed

    def run(self, program):
        """Run a program completely or not at all; the bag of what was removed."""
        effect = effect_on(self.size, program)
        removed = effect.removed(self._bag)
        self._bag = effect.apply(self._bag)
        return removed

    def copy(self):
        """An independent heap with the same contents."""
        return Heap(self._bag)

    def __eq__(self, other):
        return (isinstance(other, Heap) and self.__class__.__name__ == other.__class__.__name__
                and self._bag == other._bag)

    def __repr__(self):
        return "".join([self.__class__.__name__, "(", repr(self._bag), ")"])


class RecordedHeap(Heap):
    """A heap that keeps a record of what was done to it, so that it can be undone."""

    def __init__(self, bag=()):
        Heap.__init__(self, bag)
        # Each call that was done, with the contents before it.
        self._done = []

    @property
    def record(self):
        """The list of all calls that were done and not undone."""
        return [entry[0] for entry in self._done]

    def push(self, number, *, count=1):
        """Insert a number so often."""
        before = self._bag
        super().push(number, count=count)
        self._done.append((("insert", number, count), before))

    def remove_smallest(self, *, count=1):
        """Remove the smallest number so often; the bag of what was removed."""
        before = self._bag
        removed = super().remove_smallest(count=count)
        self._done.append((("remove", count), before))
        return removed

    def run(self, program):
        """Run a program completely or not at all; the bag of what was removed."""
        before = self._bag
        removed = super().run(program)
        self._done.append((("run", program), before))
        return removed

    def undo(self):
        """Take the last call of the record back; that call."""
        if not self._done:
            raise NothingToUndo()
        call, before = self._done.pop()
        self._bag = before
        return call

    def copy(self):
        """An independent heap with the same contents and the same record."""
        twin = RecordedHeap(self._bag)
        twin._done = list(self._done)
        return twin


class BoundedHeap(Heap):
    """A heap with a capacity: what makes it larger drops its greatest number."""

    def __init__(self, bag=(), *, capacity):
        Heap.__init__(self, bag)
        check_capacity(capacity, size_of(bag))
        self._capacity = capacity

    @property
    def capacity(self):
        """How many numbers the heap holds at most."""
        return self._capacity

    def resize(self, capacity):
        """Change the capacity."""
        check_capacity(capacity, self.size)
        self._capacity = capacity

    def push(self, number, *, count=1):
        """Insert a number so often."""
        super().push(number, count=count)
        # Dropping after each insertion and dropping once after all of them leave the same.
        self._bag = cut(self._bag, self._capacity)[0]

    def run(self, program):
        """Run a program of limited length completely or not at all; the bag of what was removed."""
        steps = expand(program, limit=LONGEST_BOUNDED_RUN)
        removed, left = _run_bounded(self._bag, steps, self._capacity)
        self._bag = left
        return removed

    def copy(self):
        """An independent heap with the same contents and the same capacity."""
        return BoundedHeap(self._bag, capacity=self._capacity)

    def __eq__(self, other):
        return (isinstance(other, BoundedHeap) and self._bag == other._bag
                and self._capacity == other._capacity)

    def __repr__(self):
        return f"BoundedHeap({self._bag}, capacity={self._capacity})"


def _run_bounded(bag, steps, capacity):
    """The bag that elementary steps remove from a heap with a capacity, and the bag that is left."""
    left = bag
    size = size_of(bag)
    removed = []
    for index, step in enumerate(steps):
        following = _after(left, step, index)
        if step[0] == "remove":
            removed.append(left[0][0])
            size = size - 1
        elif size < capacity:
            size = size + 1
        else:
            following = without_one(following, following[-1][0])
        left = following
    return bag_of(removed), left
