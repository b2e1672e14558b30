"""Levels: a bag seen as how many of its numbers are at most each of some numbers.

For every number t, an effect turns a heap with c numbers that are at most t into one with
max(c + inserted - removals, survivors) such numbers, where inserted and survivors are also
counted up to t. This turns compositions and powers into sums and maxima of levels.
"""


def levels_of(bag, numbers):
    """For each of these ascending numbers, how many in the bag are at most it.

    All numbers of the bag must be among them.
    """
    counts = dict(bag)
    levels = []
    level = 0
    for number in numbers:
        level = level + counts.get(number, 0)
        levels.append(level)
    return levels


def bag_with_levels(numbers, levels):
    """The bag of some of these ascending numbers that has these levels."""
    entries = []
    below = 0
    for number, level in zip(numbers, levels):
        if level > below:
            entries.append((number, level - below))
        below = level
    return tuple(entries)
