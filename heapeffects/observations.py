"""Observations: which survivors an effect may have, by what it made of some heaps.

Survivors are looked at by their levels: how many of them are at most each inserted number, and how many are
below all of these (none). An observation fixes a level or bounds it, and a level is at least the one before
it, by at most as much as is inserted between. The bags within such bounds have a least and a greatest one.
"""

from heapeffects.bags import check_bag, is_bag, size_of
from heapeffects.effects import check_effect
from heapeffects.errors import InvalidObservations, LimitExceeded
from heapeffects.integers import check_count
from heapeffects.levels import bag_with_levels, levels_of

MOST_OBSERVATIONS = 20
MOST_INSERTED = 200


def agrees(effect, observations):
    """Whether an effect agrees with all observations."""
    check_effect(effect)
    _check_observations(observations)
    return all([_turns(effect, before, after) for before, after in observations])


def _turns(effect, before, after):
    """Whether an effect turns one heap into another."""
    return size_of(before) >= effect.needed and effect.apply(before) == after


def possible_survivors(inserted, removals, observations):
    """How many bags of survivors agree with the observations, the least and the greatest of them."""
    _check(inserted, removals, observations)
    lows, highs = _bounds(inserted, removals, observations)
    ways = _ways_by_size(inserted, lows, highs)
    count = sum(ways.values())
    if count == 0:
        return (0, None, None)
    numbers = [entry[0] for entry in inserted]
    return (count, bag_with_levels(numbers, lows[1:]), bag_with_levels(numbers, highs[1:]))


def question_size(inserted, removals, observations):
    """The least size of a heap of greater numbers on which any two of these effects differ, or None."""
    _check(inserted, removals, observations)
    lows, highs = _bounds(inserted, removals, observations)
    ways = _ways_by_size(inserted, lows, highs)
    greatest = []
    for size in sorted(ways, reverse=True):
        greatest.extend([size] * min(ways[size], 2))
    if len(greatest) < 2:
        return None
    # The more survive, the more an effect needs; where it does not fail, the survivors are seen.
    return removals - size_of(inserted) + greatest[1]


def _check(inserted, removals, observations):
    check_bag(inserted)
    check_count(removals)
    _check_observations(observations)
    size = size_of(inserted)
    if size > MOST_INSERTED:
        raise LimitExceeded(size)


def _check_observations(observations):
    if not isinstance(observations, list) or len(observations) > MOST_OBSERVATIONS:
        raise InvalidObservations(None)
    for index, observation in enumerate(observations):
        if not _is_observation(observation):
            raise InvalidObservations(index)


def _is_observation(value):
    return isinstance(value, tuple) and len(value) == 2 and is_bag(value[0]) and is_bag(value[1])


def _bounds(inserted, removals, observations):
    """The least and the greatest levels of survivors that agree with the observations.

    If there are none, some least level is above the greatest one.
    """
    numbers = [entry[0] for entry in inserted]
    lows = [0] * (len(numbers) + 1)
    highs = [0] + levels_of(inserted, numbers)
    # There are at least as many removals as numbers that do not survive.
    lows[-1] = max(0, highs[-1] - removals)
    for before, after in observations:
        for at, low, high in _seen(inserted, removals, before, after):
            lows[at] = max(lows[at], low)
            highs[at] = min(highs[at], high)
    return _tightened(lows, highs, [0] + [entry[1] for entry in inserted])


def _seen(inserted, removals, before, after):
    """The bounds that an observation sets, as tuples (index of the level, low, high).

    An effect leaves as many numbers up to a number as it shifts to there, or as survive, if these are more.
    """
    numbers = [entry[0] for entry in inserted]
    shift = size_of(inserted) - removals
    # On a heap that is large enough, no more survive than are left.
    seen = [(len(numbers), 0, size_of(before) + shift)]
    points = sorted(set([entry[0] for entry in before + after + inserted]))
    rows = [levels_of(bag, points) for bag in (before, inserted, after)]
    for point, there, added, left in zip(points, rows[0], rows[1], rows[2]):
        at = len([number for number in numbers if number <= point])
        shifted = there + added - removals
        # What is left is either shifted to there, or it is just what survives.
        low = 0 if shifted == left else max(shifted, left)
        seen.append((at, low, left))
    return seen


def _tightened(lows, highs, counts):
    """The bounds that are reached, as levels never fall and rise by at most these counts."""
    least = list(lows)
    most = list(highs)
    for at in range(1, len(counts)):
        least[at] = max(least[at], least[at - 1])
        most[at] = min(most[at], most[at - 1] + counts[at])
    for at in reversed(range(1, len(counts))):
        least[at - 1] = max(least[at - 1], least[at] - counts[at])
        most[at - 1] = min(most[at - 1], most[at])
    return least, most


def _ways_by_size(inserted, lows, highs):
    """For each size of survivors within these bounds, how many there are."""
    ways = {level: 1 for level in range(lows[0], highs[0] + 1)}
    for at, (_, count) in enumerate(inserted):
        following = {}
        for level in range(lows[at + 1], highs[at + 1] + 1):
            following[level] = sum([ways.get(level - more, 0) for more in range(count + 1)])
        ways = following
    return ways
