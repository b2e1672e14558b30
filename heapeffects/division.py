"""Quotients of effects: what must run after or before an effect so that a whole results.

A composition is known by its levels (see levels.py): the levels of what survives it are, number by number,
the maximum of what is left of the first survivors and of the last survivors. So the quotient's survivors
have levels with upper bounds, and it is enough to try the greatest ones within these: if a quotient exists,
they make one, as greater levels only come nearer to the maximum.
"""

from heapeffects.algebra import compose
from heapeffects.bags import contains, difference
from heapeffects.effects import Effect, check_effect
from heapeffects.levels import bag_with_levels, levels_of


def right_quotient(whole, first):
    """The effect with the greatest survivors whose composition after first is the whole, or None."""
    check_effect(whole)
    check_effect(first)
    if not contains(whole.inserted, first.inserted):
        return None
    numbers = [entry[0] for entry in whole.inserted]
    # What survives the quotient survives the whole.
    quotient = _greatest_part(whole, first, levels_of(whole.survivors, numbers))
    if quotient is None or compose(first, quotient) != whole:
        return None
    return quotient


def left_quotient(whole, last):
    """The effect with the greatest survivors whose composition before last is the whole, or None."""
    check_effect(whole)
    check_effect(last)
    if not contains(whole.inserted, last.inserted):
        return None
    numbers = [entry[0] for entry in whole.inserted]
    # What survives the quotient survives the whole, but for what last inserts and removes.
    pairs = zip(levels_of(whole.survivors, numbers), levels_of(last.inserted, numbers))
    bounds = [kept - inserted + last.removals for kept, inserted in pairs]
    quotient = _greatest_part(whole, last, bounds)
    if quotient is None or compose(quotient, last) != whole:
        return None
    return quotient


def _greatest_part(whole, part, bounds):
    """The effect that the part lacks to the whole, with the greatest survivors within the bounds, or None.

    The bounds are levels at the numbers that the whole inserts. If one of them is below 0, no bag is within
    them; then there is no quotient, whatever is returned here.
    """
    inserted = difference(whole.inserted, part.inserted)
    removals = whole.removals - part.removals
    numbers = [entry[0] for entry in whole.inserted]
    survivors = bag_with_levels(numbers, _greatest_levels(inserted, numbers, bounds))
    if not Effect.is_valid(inserted, removals, survivors):
        return None
    return Effect(inserted, removals, survivors)


def _greatest_levels(bag, numbers, bounds):
    """The greatest levels within these bounds of a bag that the given one contains."""
    most = list(bounds)
    for at in reversed(range(len(most) - 1)):
        # Levels never fall, so a bound holds for all levels before it, too.
        most[at] = min(most[at], most[at + 1])
    counts = dict(bag)
    levels = []
    level = 0
    for number, bound in zip(numbers, most):
        level = min(level + counts.get(number, 0), bound)
        levels.append(level)
    return levels
