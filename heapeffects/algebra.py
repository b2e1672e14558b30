"""The algebra of effects: compositions, powers, and the way back from powers."""

from heapeffects.bags import size_of
from heapeffects.effects import Effect, check_effect
from heapeffects.errors import InvalidCount
from heapeffects.integers import check_count
from heapeffects.levels import bag_with_levels, levels_of
from heapeffects.triples import composed, repeated


def compose(*effects):
    """The effect of running programs with these effects one after another."""
    for effect in effects:
        check_effect(effect)
    return _effect_of(composed([_triple(effect) for effect in effects]))


def power(effect, count):
    """The composition of so many copies of an effect."""
    check_effect(effect)
    check_count(count)
    return _effect_of(repeated(_triple(effect), count))


def _triple(effect):
    return (effect.inserted, effect.removals, effect.survivors)


def _effect_of(triple):
    inserted, removals, survivors = triple
    return Effect(inserted, removals, survivors)


def commute(first, second):
    """Whether both orders of two effects have the same composition."""
    return compose(first, second) == compose(second, first)


def root(effect, count):
    """The effect of which this power is the given one, or None."""
    check_effect(effect)
    check_count(count)
    if count == 0:
        raise InvalidCount(count)
    inserted = _share(effect.inserted, count)
    if inserted is None or effect.removals % count != 0:
        return None
    removals = effect.removals // count
    survivors = _root_survivors(effect.survivors, count, inserted, removals)
    # What survives can only be this, but a power of it need not be the effect.
    if not Effect.is_valid(inserted, removals, survivors):
        return None
    found = Effect(inserted, removals, survivors)
    if power(found, count) != effect:
        return None
    return found


def _share(bag, count):
    """The bag of which the given one holds so many copies, or None."""
    if any([entry[1] % count != 0 for entry in bag]):
        return None
    return tuple([(number, many // count) for number, many in bag])


def _root_survivors(survivors, count, inserted, removals):
    """What survives one turn, if this survives so many turns with these insertions and removals."""
    numbers = [entry[0] for entry in inserted]
    gains = [max(level - removals, 0) for level in levels_of(inserted, numbers)]
    # Each turn after the first adds to a level what is inserted beyond the removals.
    kept = levels_of(survivors, numbers)
    return bag_with_levels(numbers, [kept[at] - (count - 1) * gains[at] for at in range(len(numbers))])


def exponent(effect, base):
    """The least count for which this power of the base is the effect, or None."""
    check_effect(effect)
    check_effect(base)
    if effect == Effect.identity():
        return 0
    if base == Effect.identity():
        return None
    # Each copy of the base brings as many insertions and removals, so no other count is possible.
    count = _steps(effect) // _steps(base)
    if power(base, count) != effect:
        return None
    return count


def _steps(effect):
    """How many insertions and removals an effect has together."""
    return size_of(effect.inserted) + effect.removals
