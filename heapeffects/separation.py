"""Telling effects apart: a smallest heap on which two differ, and the effect behind two results."""

from heapeffects.bags import at_most, check_bag, times, union
from heapeffects.effects import Effect, check_effect
from heapeffects.errors import InvalidNumber
from heapeffects.integers import check_count, check_number
from heapeffects.levels import levels_of


def separating_heap(first, second):
    """A smallest bag on which two effects differ, or None if they are equal."""
    check_effect(first)
    check_effect(second)
    if first == second:
        return None
    if first.needed != second.needed or first.survivors != second.survivors:
        # On smaller heaps both fail. On one of this size, whatever it holds, one of them fails, or each
        # removes the whole heap and leaves just its survivors.
        return times(((0, 1),), min(first.needed, second.needed))
    return _least_difference(first, second)


def _least_difference(first, second):
    """A smallest bag on which two effects differ that need as many numbers and have the same survivors."""
    inserted = union(first.inserted, second.inserted)
    numbers = [inserted[0][0] - 1] + [entry[0] for entry in inserted]
    survivors = levels_of(first.survivors, numbers)
    # Of c numbers that are at most t, max(c + shift, survivors) are left, where the survivors up to t are
    # at least the shift. So the greater one of two shifts shows as soon as it takes c above the survivors.
    shifts = zip(numbers, survivors, _shifts(first, numbers), _shifts(second, numbers))
    rows = [(kept - max(one, other) + 1, number) for number, kept, one, other in shifts if one != other]
    count, number = min(rows)
    return ((number, count),)


def _shifts(effect, numbers):
    """For each of these numbers, by how much an effect shifts how many are at most it."""
    return [level - effect.removals for level in levels_of(effect.inserted, numbers)]


def identify(low, high, size, low_result, high_result):
    """The effect that has these results on so many numbers below low and on so many above high, or None."""
    check_number(low)
    check_number(high)
    check_count(size)
    if low > high:
        raise InvalidNumber(high)
    check_bag(low_result)
    check_bag(high_result)
    # Removals take from the low heap nothing that was inserted, and of what was inserted they leave in the
    # high heap nothing but the survivors.
    inserted = _between(low_result, low, high)
    removals = size - at_most(low_result, low - 1)
    survivors = _between(high_result, low, high)
    if not Effect.is_valid(inserted, removals, survivors):
        return None
    effect = Effect(inserted, removals, survivors)
    if effect.apply(times(((low - 1, 1),), size)) != low_result:
        return None
    if effect.apply(times(((high + 1, 1),), size)) != high_result:
        return None
    return effect


def _between(bag, low, high):
    """The bag of the numbers from low to high."""
    return tuple([entry for entry in bag if low <= entry[0] <= high])
