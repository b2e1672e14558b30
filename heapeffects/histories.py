"""Histories: what happens at one place of a program, however long it is."""

from heapeffects.bags import at_most, check_bag, size_of
from heapeffects.effects import Effect
from heapeffects.errors import EmptyHeap, OutOfRange
from heapeffects.failures import effect_on, failing_index
from heapeffects.integers import is_count
from heapeffects.programs import check_program, prefix, removal_count, step_at, suffix, totals, totals_of_step


def first_failure(bag, program):
    """The index of the first elementary step that fails on a heap, or None."""
    size = size_of(bag)
    check_program(program)
    return failing_index(size, program)


def heap_after(bag, program, index):
    """What a heap holds after the first index elementary steps."""
    size = size_of(bag)
    return effect_on(size, prefix(program, index)).apply(bag)


def removed_at(bag, program, ordinal):
    """The number that is removed by the removal with this ordinal."""
    check_bag(bag)
    index = _removal_index(program, ordinal)
    left = heap_after(bag, program, index)
    if not left:
        raise EmptyHeap(index)
    return left[0][0]


def fate(bag, program, index):
    """The index of the elementary step that removes the number that is inserted at an index, or None."""
    size = size_of(bag)
    step = step_at(program, index)
    if step[0] != "insert":
        raise OutOfRange(index)
    effect_on(size, program)
    # In front of the number are those before it that are not greater, and those after it that are smaller.
    number = step[1]
    ahead = at_most(heap_after(bag, program, index), number)
    waiting = failing_index(ahead, suffix(program, index + 1), number)
    if waiting is None:
        return None
    return index + 1 + waiting


def removal_bound(program, ordinal):
    """The greatest number that the removal with this ordinal can remove, or None if there is no greatest."""
    index = _removal_index(program, ordinal)
    survivors = Effect.of(prefix(program, index)).survivors
    if not survivors:
        return None
    return survivors[0][0]


def _removal_index(program, ordinal):
    """The index of the elementary step that is the removal with this ordinal."""
    removals = removal_count(program)
    if not is_count(ordinal) or ordinal >= removals:
        raise OutOfRange(ordinal)
    return _index_within(program, ordinal)


def _index_within(program, ordinal):
    index = 0
    left = ordinal
    for step in program:
        insertions, removals = totals_of_step(step)
        if left < removals:
            return index + _index_within_step(step, left)
        left = left - removals
        index = index + insertions + removals
    return index


def _index_within_step(step, ordinal):
    """The same for a single step that has more removals."""
    if step[0] == "remove":
        return ordinal
    insertions, removals = totals(step[2])
    turns, rest = divmod(ordinal, removals)
    return turns * (insertions + removals) + _index_within(step[2], rest)
