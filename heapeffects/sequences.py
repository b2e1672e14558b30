"""Sequences: lists of elementary steps, and all those that have one effect.

Which steps may come next depends on a state (left, heap, consumed, removals): what is still to be inserted,
what was inserted and not removed, what of both is still to be removed, and how many removals are left.
"""

from math import comb

from heapeffects.bags import size_of, with_one, without_one
from heapeffects.effects import Effect, check_effect
from heapeffects.errors import InvalidSequence, LimitExceeded, OutOfRange
from heapeffects.integers import is_count
from heapeffects.programs import is_elementary

LONGEST = 40
LONGEST_COUNTED = 12


def check_sequence(sequence):
    """Raise InvalidSequence unless this is a sequence."""
    if not isinstance(sequence, list) or len(sequence) > LONGEST:
        raise InvalidSequence(None)
    for index, step in enumerate(sequence):
        if not is_elementary(step):
            raise InvalidSequence(index)


def effect_of(sequence):
    """The effect of a sequence."""
    check_sequence(sequence)
    return Effect.of(tuple(sequence))


def count_sequences(effect):
    """How many sequences have an effect."""
    _check_length(effect)
    return _ways(_state_before(effect), {})


def sequence_at(effect, index):
    """The sequence at an index among those of an effect."""
    length = _check_length(effect)
    state = _state_before(effect)
    known = {}
    if not is_count(index) or index >= _ways(state, known):
        raise OutOfRange(index)
    sequence = []
    left = index
    for _ in range(length):
        for step, following in _choices(state):
            ways = _ways(following, known)
            if left < ways:
                sequence.append(step)
                state = following
                break
            left = left - ways
    return sequence


def index_of(sequence):
    """The index of a sequence among those of its effect."""
    effect = effect_of(sequence)
    _check_length(effect)
    state = _state_before(effect)
    known = {}
    index = 0
    for step in sequence:
        for other, following in _choices(state):
            if other == step:
                state = following
                break
            index = index + _ways(following, known)
    return index


def all_sequences(effect):
    """Yield all sequences of an effect in ascending order."""
    _check_length(effect)
    state = _state_before(effect)
    known = {}
    # From here on the number of ways is known for every state, so the loops below change nothing.
    if _ways(state, known) > 0:
        yield from _sequences_from(state, known)


def _sequences_from(state, known):
    """Yield all sequences that lead from a state to the end, in ascending order."""
    choices = _choices(state)
    if not choices:
        yield []
    for step, following in choices:
        if _ways(following, known) > 0:
            for rest in _sequences_from(following, known):
                yield [step] + rest


def _check_length(effect):
    """How many insertions and removals an effect has, if these are not too many."""
    check_effect(effect)
    length = size_of(effect.inserted) + effect.removals
    if length > LONGEST_COUNTED:
        raise LimitExceeded(length)
    return length


def _state_before(effect):
    """The state before the first step of a sequence with this effect."""
    return (effect.inserted, (), effect.consumed, effect.removals)


def _choices(state):
    """The steps that may come next, in ascending order, each with the state after it."""
    left, heap, consumed, removals = state
    choices = []
    for number, _ in left:
        following = (without_one(left, number), with_one(heap, number), consumed, removals)
        choices.append((("insert", number, 1), following))
    if removals > 0 and not heap:
        # The removal takes a number that was not inserted.
        choices.append((("remove", 1), (left, heap, consumed, removals - 1)))
    elif removals > 0 and heap[0][0] in dict(consumed):
        number = heap[0][0]
        following = (left, without_one(heap, number), without_one(consumed, number), removals - 1)
        choices.append((("remove", 1), following))
    return choices


def _ways(state, known):
    """How many sequences lead from a state to the end; the dict keeps what was counted before."""
    left, _, consumed, removals = state
    if removals == 0:
        return 0 if consumed else _orders(left)
    if state not in known:
        known[state] = sum([_ways(choice[1], known) for choice in _choices(state)])
    return known[state]


def _orders(bag):
    """In how many orders the numbers of a bag can be inserted."""
    orders = 1
    size = 0
    for _, count in bag:
        size = size + count
        orders = orders * comb(size, count)
    return orders
