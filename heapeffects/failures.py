"""Where a program first fails on a heap.

A removal fails if all numbers were removed before it, so only the size of the heap matters: how much a
step adds to it in all (its gain), and the least that it adds on the way (its low, at most 0). Those of a
repeat follow from those of one turn.
"""


def failing_index(size, program):
    """The index of the first elementary step that fails on a heap of this size, or None."""
    index = 0
    left = size
    for step in program:
        length, gain, low = _course_of_step(step)
        if left + low < 0:
            return index + _failing_within(left, step)
        index = index + length
        left = left + gain
    return None


def _failing_within(size, step):
    """The same for a single step that does fail."""
    if step[0] == "remove":
        return size
    length, gain, low = _course(step[2])
    turns = 0
    if size + low >= 0:
        # The first turn does not fail but a later one does, so each turn takes something away.
        turns = (size + low) // -gain + 1
    return turns * length + failing_index(size + turns * gain, step[2])


def _course(program):
    """The length, the gain and the low of a program."""
    length = 0
    gain = 0
    low = 0
    for step in program:
        step_length, step_gain, step_low = _course_of_step(step)
        low = min(low, gain + step_low)
        gain = gain + step_gain
        length = length + step_length
    return length, gain, low


def _course_of_step(step):
    if step[0] == "insert":
        return step[2], step[2], 0
    if step[0] == "remove":
        return step[1], -step[1], -step[1]
    length, gain, low = _course(step[2])
    count = step[1]
    if count == 0:
        return 0, 0, 0
    # The lowest turn is the last one if each turn takes something away, and otherwise the first.
    return count * length, count * gain, low + (count - 1) * min(gain, 0)
