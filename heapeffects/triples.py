"""Triples (inserted, removals, survivors): what an effect consists of, without the checks of an Effect."""

from heapeffects.bags import times, union
from heapeffects.levels import bag_with_levels, levels_of

IDENTITY = ((), 0, ())


def triple_of(program):
    """The triple of a program."""
    return composed([_triple_of_step(step) for step in program])


def _triple_of_step(step):
    if step[0] == "repeat":
        return repeated(triple_of(step[2]), step[1])
    if step[0] == "remove":
        return ((), step[1], ())
    bag = times(((step[1], 1),), step[2])
    return (bag, 0, bag)


def composed(triples):
    """The triple of running all of these one after another."""
    rest = list(triples)
    # Neighbours are joined pair by pair, so that most of the joined bags are short.
    while len(rest) > 1:
        pairs = [_composed_pair(rest[at], rest[at + 1]) for at in range(0, len(rest) - 1, 2)]
        rest = pairs + rest[2 * len(pairs):]
    if not rest:
        return IDENTITY
    return rest[0]


def _composed_pair(first, last):
    inserted = union(first[0], last[0])
    numbers = [entry[0] for entry in inserted]
    shifts = [level - last[1] for level in levels_of(last[0], numbers)]
    before = levels_of(first[2], numbers)
    kept = levels_of(last[2], numbers)
    levels = [max(before[at] + shifts[at], kept[at]) for at in range(len(numbers))]
    return (inserted, first[1] + last[1], bag_with_levels(numbers, levels))


def repeated(triple, count):
    """The triple of running this one so often."""
    if count == 0:
        return IDENTITY
    inserted, removals, survivors = triple
    numbers = [entry[0] for entry in inserted]
    shifts = [level - removals for level in levels_of(inserted, numbers)]
    kept = levels_of(survivors, numbers)
    # Each turn shifts the level that the turn before left, but never below what it keeps itself. So a level
    # with a shift above 0 grows with every turn after the first, and any other stays at what one turn keeps.
    levels = [kept[at] + (count - 1) * max(shifts[at], 0) for at in range(len(numbers))]
    return (times(inserted, count), removals * count, bag_with_levels(numbers, levels))
