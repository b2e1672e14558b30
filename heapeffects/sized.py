"""Sized effects: what steps do to every heap of one size, also if they remove greatest numbers."""

from heapeffects.bags import size_of
from heapeffects.errors import EmptyHeap, InvalidCount, InvalidEffect, InvalidSequence
from heapeffects.integers import check_capacity, check_count, check_number, is_number
from heapeffects.levels import bag_with_levels, levels_of
from heapeffects.programs import has_form

LONGEST = 60


class SizedEffect:
    """The effect of sized steps on all heaps of one size.

    It is known by its levels: how it changes how many numbers are at most some number. They differ only
    from one inserted number to the next.
    """

    def __init__(self, steps, *, size, capacity=None):
        _check_steps(steps)
        check_count(size)
        if capacity is not None:
            check_capacity(capacity, size)
        self._size = size
        self._capacity = capacity
        self._size_after = _size_after(steps, size, capacity)
        self._numbers = sorted(set([step[1] for step in steps if step[0] == "insert"]))
        self._levels = [_level(steps, size, capacity, number) for number in _lowest_and(self._numbers)]

    @property
    def size(self):
        """The size of the heaps before."""
        return self._size

    @property
    def capacity(self):
        """The capacity of the heaps, or None."""
        return self._capacity

    @property
    def size_after(self):
        """The size of the heaps after."""
        return self._size_after

    def apply(self, bag):
        """What becomes of a heap."""
        size = size_of(bag)
        if size != self._size:
            raise InvalidCount(size)
        numbers = sorted(set(self._numbers + [entry[0] for entry in bag]))
        before = levels_of(bag, numbers)
        after = [_changed(self.level(number), count) for number, count in zip(numbers, before)]
        return bag_with_levels(numbers, after)

    def level(self, number):
        """The tuple (shift, low, high) that tells what becomes of how many are at most this number."""
        check_number(number)
        return self._levels[len([each for each in self._numbers if each <= number])]

    def then(self, other):
        """The sized effect of this one and then another."""
        if not isinstance(other, SizedEffect):
            raise InvalidEffect("effect")
        if other._size != self._size_after:
            raise InvalidEffect("size")
        if other._capacity != self._capacity:
            raise InvalidEffect("capacity")
        joined = SizedEffect([], size=self._size, capacity=self._capacity)
        joined._size_after = other._size_after
        joined._numbers = sorted(set(self._numbers + other._numbers))
        joined._levels = [_joined(self.level(number), other.level(number)) for number in _lowest_and(joined._numbers)]
        return joined

    def __eq__(self, other):
        return (isinstance(other, SizedEffect) and self._size == other._size and self._capacity == other._capacity
                and _outcomes(self._numbers, self._levels) == _outcomes(other._numbers, other._levels))


def _check_steps(steps):
    """Raise InvalidSequence unless this is a list of sized steps that is not too long."""
    if not isinstance(steps, list) or len(steps) > LONGEST:
        raise InvalidSequence(None)
    for index, step in enumerate(steps):
        if not _is_sized_step(step):
            raise InvalidSequence(index)


def _is_sized_step(step):
    if has_form(step, "insert", 2):
        return is_number(step[1])
    return has_form(step, "remove", 1) or has_form(step, "remove_greatest", 1)


def _size_after(steps, size, capacity):
    """The size of the heaps after these steps, if none of them removes from an empty heap."""
    left = size
    for index, step in enumerate(steps):
        if step[0] != "insert" and left == 0:
            raise EmptyHeap(index)
        left = _size_after_step(left, step, capacity)
    return left


def _size_after_step(size, step, capacity):
    if step[0] != "insert":
        return size - 1
    if size == capacity:
        return size
    return size + 1


def _lowest_and(numbers):
    """These ascending numbers behind one that is smaller than all of them."""
    if not numbers:
        return [0]
    return [numbers[0] - 1] + numbers


def _level(steps, size, capacity, number):
    """The level of these steps for a number, on heaps of this size."""
    insertions = len([step for step in steps if step[0] == "insert" and step[1] <= number])
    shift = insertions - len([step for step in steps if step[0] == "remove"])
    low = _count_after(steps, size, capacity, number, 0)
    high = _count_after(steps, size, capacity, number, size)
    return (shift, low, high)


def _count_after(steps, size, capacity, number, count):
    """How many are at most this number after the steps, if so many of a heap of this size are before."""
    at_most = count
    left = size
    for step in steps:
        left = _size_after_step(left, step, capacity)
        if step[0] == "insert" and step[1] <= number:
            at_most = at_most + 1
        elif step[0] == "remove":
            at_most = max(at_most - 1, 0)
        # Where the greatest one goes, by a step or for the capacity, it is one of these only if all are.
        at_most = min(at_most, left)
    return at_most


def _changed(level, count):
    """What becomes of a count of numbers by a level."""
    shift, low, high = level
    return max(low, min(high, count + shift))


def _joined(first, last):
    """The level of one level and then another."""
    return (first[0] + last[0], _changed(last, first[1]), _changed(last, first[2]))


def _outcomes(numbers, levels):
    """From which number on the results change, and by what level; None stands before all numbers.

    These are equal if and only if all heaps of one size have equal results.
    """
    outcomes = [(None, _outcome(levels[0]))]
    for number, level in zip(numbers, levels[1:]):
        outcome = _outcome(level)
        if outcome != outcomes[-1][1]:
            outcomes.append((number, outcome))
    return outcomes


def _outcome(level):
    """What the results tell of a level: no shift shows where all heaps lead to the same count."""
    shift, low, high = level
    if low == high:
        return (0, low, high)
    return (shift, low, high)
