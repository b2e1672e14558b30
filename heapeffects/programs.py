"""Programs: tuples of steps, which stand for sequences of elementary steps."""

from heapeffects.errors import InvalidProgram, LimitExceeded, OutOfRange
from heapeffects.integers import check_count, is_count, is_number

DEEPEST = 8


def check_program(program):
    """Raise InvalidProgram unless this is a program."""
    if not isinstance(program, tuple):
        raise InvalidProgram(())
    path = _first_invalid(program, 1)
    if path is not None:
        raise InvalidProgram(path)


def _first_invalid(program, depth):
    """The path to the first invalid step of a tuple that lies so deep, or None."""
    for index, step in enumerate(program):
        path = _invalid_in(step, depth)
        if path is not None:
            return (index, *path)
    return None


def _invalid_in(step, depth):
    """The path to the first invalid step within this one, () for this one itself, or None."""
    if _is_insertion(step) or _is_removal(step):
        return None
    if depth == DEEPEST or not _is_repeat(step):
        return ()
    return _first_invalid(step[2], depth + 1)


def _is_insertion(step):
    return has_form(step, "insert", 3) and is_number(step[1]) and is_count(step[2])


def _is_removal(step):
    return has_form(step, "remove", 2) and is_count(step[1])


def is_elementary(step):
    """Whether any value is an elementary step."""
    if _is_insertion(step):
        return step[2] == 1
    return _is_removal(step) and step[1] == 1


def _is_repeat(step):
    """Whether this is a repeat whose own items are right, whatever stands in its program."""
    return has_form(step, "repeat", 3) and is_count(step[1]) and isinstance(step[2], tuple)


def has_form(step, word, size):
    """Whether any value is a tuple of this size that begins with this word."""
    if not isinstance(step, tuple) or len(step) != size:
        return False
    # Any object may stand here; only a text is asked whether it is equal.
    return isinstance(step[0], str) and step[0] == word


def step_count(program):
    """How many elementary steps a program stands for."""
    check_program(program)
    return _length(program)


def insertion_count(program):
    """How many of the elementary steps are insertions."""
    check_program(program)
    return totals(program)[0]


def removal_count(program):
    """How many of the elementary steps are removals."""
    check_program(program)
    return totals(program)[1]


def totals(program):
    """How many insertions and how many removals a program stands for."""
    parts = [totals_of_step(step) for step in program]
    return sum([part[0] for part in parts]), sum([part[1] for part in parts])


def totals_of_step(step):
    """The same for a single step."""
    if step[0] == "insert":
        return step[2], 0
    if step[0] == "remove":
        return 0, step[1]
    insertions, removals = totals(step[2])
    return step[1] * insertions, step[1] * removals


def _length(program):
    return sum(totals(program))


def _step_length(step):
    return sum(totals_of_step(step))


def expand(program, *, limit=1000):
    """The list of the elementary steps."""
    check_program(program)
    check_count(limit)
    length = _length(program)
    if length > limit:
        raise LimitExceeded(length)
    return _expanded(program)


def _expanded(program):
    steps = []
    for step in program:
        steps.extend(_expanded_step(step))
    return steps


def _expanded_step(step):
    if step[0] == "insert":
        return [("insert", step[1], 1)] * step[2]
    if step[0] == "remove":
        return [("remove", 1)] * step[1]
    # What a repeat without elementary steps holds may be too long to be written out (if it is
    # repeated 0 times), and Python cannot multiply an empty list by a very great count.
    if _step_length(step) == 0:
        return []
    return _expanded(step[2]) * step[1]


def step_at(program, index):
    """The elementary step at an index."""
    check_program(program)
    if not is_count(index) or index >= _length(program):
        raise OutOfRange(index)
    return _elementary(program, index)


def _elementary(program, index):
    at, rest = _find(program, index)
    step = program[at]
    if step[0] == "insert":
        return ("insert", step[1], 1)
    if step[0] == "remove":
        return ("remove", 1)
    return _elementary(step[2], rest % _length(step[2]))


def _find(program, index):
    """The index of the step that the elementary step at index belongs to, and how many of that step come before.

    Past the last elementary step these are the number of steps and 0.
    """
    rest = index
    for at, step in enumerate(program):
        length = _step_length(step)
        if rest < length:
            return at, rest
        rest = rest - length
    return len(program), 0


def prefix(program, index):
    """A program that stands for the first index elementary steps."""
    _check_cut(program, index)
    return _split(program, index)[0]


def suffix(program, index):
    """A program that stands for all elementary steps but the first index ones."""
    _check_cut(program, index)
    return _split(program, index)[1]


def _check_cut(program, index):
    check_program(program)
    if not is_count(index) or index > _length(program):
        raise OutOfRange(index)


def _split(program, index):
    """A program for the first index elementary steps, and one for the others."""
    at, rest = _find(program, index)
    if rest == 0:
        return program[:at], program[at:]
    head, tail = _split_step(program[at], rest)
    return program[:at] + head, tail + program[at + 1:]


def _split_step(step, index):
    """The same for a single step that is longer than index."""
    if step[0] == "insert":
        return (("insert", step[1], index),), (("insert", step[1], step[2] - index),)
    if step[0] == "remove":
        return (("remove", index),), (("remove", step[1] - index),)
    turns, rest = divmod(index, _length(step[2]))
    if rest == 0:
        return _turns(turns, step[2]), _turns(step[1] - turns, step[2])
    # The turn that is cut stands beside the repeat, so the program gets no deeper.
    head, tail = _split(step[2], rest)
    return _turns(turns, step[2]) + head, tail + _turns(step[1] - turns - 1, step[2])


def _turns(count, program):
    """A program that runs a program so often, without an idle repeat."""
    if count == 0:
        return ()
    return (("repeat", count, program),)
