"""Plans: the shortest way from one heap to another, and the way back through an effect."""

from heapeffects.bags import at_most, check_bag, contains, difference, size_of, times, union, without_smallest
from heapeffects.effects import Effect, check_effect


def distance(start, goal):
    """The least number of elementary steps that turn a heap into another one."""
    removals, inserted = _least_steps(start, goal)
    return removals + size_of(inserted)


def plan(start, goal, *, stock=None):
    """A shortest program that turns a heap into another one, or None if it inserts more than the stock."""
    removals, inserted = _least_steps(start, goal)
    if stock is not None:
        check_bag(stock)
        if not contains(stock, inserted):
            return None
    return Effect(inserted, removals, inserted).normal()


def _least_steps(start, goal):
    """The least number of removals that turn a heap into another one, and the bag of the least insertions.

    Whatever else a program does, it must remove so many numbers of the start, and insert what these
    leave of the goal. So no program does with less of either.
    """
    check_bag(start)
    check_bag(goal)
    wanted = dict(goal)
    removals = 0
    below = 0
    for number, count in start:
        surplus = count - wanted.get(number, 0)
        if surplus > 0:
            # To reach this number, all smaller ones must be removed, too.
            removals = below + surplus
        below = below + count
    return removals, difference(goal, without_smallest(start, removals))


def preimage(effect, result):
    """A bag that an effect turns into the result, or None."""
    check_effect(effect)
    check_bag(result)
    left = difference(result, effect.survivors)
    if left is None:
        return None
    if not left:
        return times(((0, 1),), effect.needed)
    # The removals take what is not greater than the smallest number that they leave; all consumed numbers
    # that are greater are among what they leave.
    lowest = left[0][0]
    taken = at_most(effect.consumed, lowest)
    given = difference(left, without_smallest(effect.consumed, taken))
    if given is None:
        return None
    return union(given, times(((lowest, 1),), effect.removals - taken))
