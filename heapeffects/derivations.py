"""Derivations: how exchanges of neighbours turn one sequence into another one of the same effect."""

from heapq import heappop, heappush

from heapeffects.integers import is_count
from heapeffects.sequences import check_sequence, effect_of


def allowed_exchanges(sequence):
    """The ascending list of the indexes of all allowed exchanges."""
    check_sequence(sequence)
    survivors = _survivors(sequence)
    return [index for index in range(len(sequence) - 1) if _is_allowed(sequence, index, survivors)]


def derivation(sequence, target):
    """A derivation that turns a sequence into the target, or None."""
    if effect_of(sequence) != effect_of(target):
        return None
    # Both lead to the normal sequence of the effect, and an exchange takes itself back.
    there = _way_to_normal(sequence)
    back = _way_to_normal(target)
    while there and back and there[-1] == back[-1]:
        there.pop()
        back.pop()
    return there + back[::-1]


def check_derivation(sequence, target, value):
    """Whether any value is a derivation that turns a sequence into the target."""
    check_sequence(sequence)
    check_sequence(target)
    if not isinstance(value, list):
        return False
    survivors = _survivors(sequence)
    steps = sequence
    for index in value:
        if not _is_index(index, steps) or not _is_allowed(steps, index, survivors):
            return False
        steps = _exchanged(steps, index)
    return steps == target


def _is_index(value, steps):
    """Whether any value is the index of a step that has another one behind it."""
    return is_count(value) and value < len(steps) - 1


def _is_allowed(steps, index, survivors):
    """Whether an exchange at this index is allowed in a sequence with these survivors."""
    if steps[index] == steps[index + 1]:
        return False
    # What is inserted and how often is removed stays the same anyway.
    return _survivors(_exchanged(steps, index)) == survivors


def _exchanged(steps, index):
    return steps[:index] + [steps[index + 1], steps[index]] + steps[index + 2:]


def _survivors(steps):
    """The ascending list of the numbers that survive."""
    return sorted([number for number, _ in _surviving(steps)])


def _surviving(steps):
    """The list of the tuples (number, index) of the insertions whose numbers survive.

    Of equal numbers, those that were inserted first are removed first.
    """
    heap = []
    for index, step in enumerate(steps):
        if step[0] == "insert":
            heappush(heap, (step[1], index))
        elif heap:
            heappop(heap)
    return heap


def _way_to_normal(sequence):
    """A derivation that turns a sequence into that of the normal program of its effect.

    A survivor may move behind any step: where a removal follows it, this removes another number that is
    not greater. When all survivors are at the end, the steps before them leave nothing, and this stays so
    where a removal moves behind an insertion. No two steps are exchanged twice.
    """
    surviving = {index: True for _, index in _surviving(sequence)}
    flags = [index in surviving for index in range(len(sequence))]
    before = [_rank_before(step) for step, flag in zip(sequence, flags) if not flag]
    survivors = [(2, step[1]) for step, flag in zip(sequence, flags) if flag]
    return _exchanges_that_sort(flags) + _exchanges_that_sort(before + survivors)


def _rank_before(step):
    """The rank of a step other than the insertion of a survivor."""
    if step[0] == "insert":
        return (0, step[1])
    return (1, 0)


def _exchanges_that_sort(ranks):
    """The indexes of exchanges of neighbours that sort these ranks; equal ones are not exchanged."""
    rest = list(ranks)
    exchanges = []
    for end in range(1, len(rest)):
        at = end
        while at > 0 and rest[at - 1] > rest[at]:
            rest[at - 1], rest[at] = rest[at], rest[at - 1]
            at = at - 1
            exchanges.append(at)
    return exchanges
