"""Where a program first fails on a heap.

A removal fails if all numbers were removed before it, so only the size of the heap matters: how much a
step adds to it in all (its gain), and the least that it adds on the way (its low, at most 0). Those of a
repeat follow from those of one turn.

The same tells when all numbers in front of some number are removed: insertions of numbers that are not
below it do not add to what is in front of it. So everywhere here, if below is not None, such insertions
are steps without a gain.
"""

from heapeffects.effects import Effect
from heapeffects.errors import EmptyHeap


def effect_on(size, program):
    """The effect of a program that does not fail on a heap of this size."""
    effect = Effect.of(program)
    if size < effect.needed:
        raise EmptyHeap(failing_index(size, program))
    return effect


def failing_index(size, program, below=None):
    """The index of the first elementary step that fails on a heap of this size, or None."""
    index = 0
    left = size
    for step in program:
        length, gain, low = _course_of_step(step, below)
        if left + low < 0:
            return index + _failing_within(left, step, below)
        index = index + length
        left = left + gain
    return None


def _failing_within(size, step, below):
    """The same for a single step that does fail."""
    if step[0] == "remove":
        return size
    length, gain, low = _course(step[2], below)
    turns = 0
    if size + low >= 0:
        # The first turn does not fail but a later one does, so each turn takes something away.
        turns = (size + low) // -gain + 1
    return turns * length + failing_index(size + turns * gain, step[2], below)


def _course(program, below):
    """The length, the gain and the low of a program."""
    length = 0
    gain = 0
    low = 0
    for step in program:
        step_length, step_gain, step_low = _course_of_step(step, below)
        low = min(low, gain + step_low)
        gain = gain + step_gain
        length = length + step_length
    return length, gain, low


def _course_of_step(step, below):
    if step[0] == "insert":
        gain = step[2] if below is None or step[1] < below else 0
        return step[2], gain, 0
    if step[0] == "remove":
        return step[1], -step[1], -step[1]
    length, gain, low = _course(step[2], below)
    count = step[1]
    if count == 0:
        return 0, 0, 0
    # The lowest turn is the last one if each turn takes something away, and otherwise the first.
    return count * length, count * gain, low + (count - 1) * min(gain, 0)
