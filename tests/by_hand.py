"""Heaps run step by step on a sorted list, without any help of the package, and values to try it on."""

import bisect
import functools
import itertools


def bag(numbers):
    """The bag of these numbers."""
    return tuple((number, list(numbers).count(number)) for number in sorted(set(numbers)))


def numbers(of_bag):
    return [number for number, count in of_bag for _ in range(count)]


def steps_of(program):
    """The elementary steps of a program, by running its loops."""
    steps = []
    for step in program:
        if step[0] == "insert":
            steps += [("insert", step[1], 1) for _ in range(step[2])]
        elif step[0] == "remove":
            steps += [("remove", 1) for _ in range(step[1])]
        else:
            for _ in range(step[1]):
                steps += steps_of(step[2])
    return steps


def run(start, steps):
    """The bags of what is left and what was removed, or None if a removal fails."""
    heap = sorted(start)
    removed = []
    for step in steps:
        if step[0] == "insert":
            bisect.insort(heap, step[1])
        elif heap:
            removed.append(heap.pop(0))
        else:
            return None
    return bag(heap), bag(removed)


def triple(steps):
    """The inserted bag, the removals and the survivors of elementary steps."""
    inserted = [step[1] for step in steps if step[0] == "insert"]
    removals = len(steps) - len(inserted)
    above = max(inserted, default=0) + 1
    left, _ = run([above] * removals, steps)
    return bag(inserted), removals, tuple(entry for entry in left if entry[0] < above)


def heaps(values, largest):
    """All heaps of some of these numbers, as sorted tuples, up to a size."""
    for size in range(largest + 1):
        yield from itertools.combinations_with_replacement(values, size)


def bags(values, largest):
    for heap in heaps(values, largest):
        yield bag(heap)


def sequences(values, length):
    """All sequences of so many elementary steps that insert these numbers."""
    steps = [("insert", number, 1) for number in values] + [("remove", 1)]
    return itertools.product(steps, repeat=length)


def random_program(source, values, size, depth):
    """A program of up to size steps in each part, with small counts, nested up to depth."""
    program = []
    for _ in range(source.randint(0, size)):
        kind = source.choice(("insert", "remove", "repeat" if depth > 1 else "insert"))
        count = source.randint(0, 3)
        if kind == "insert":
            program.append(("insert", source.choice(values), count))
        elif kind == "remove":
            program.append(("remove", source.randint(0, 2)))
        else:
            program.append(("repeat", count, random_program(source, values, size, depth - 1)))
    return tuple(program)


def nested(depth, innermost=(("insert", 1, 1),), count=1):
    """A program that is nested so deep."""
    program = innermost
    for _ in range(depth - 1):
        program = (("repeat", count, program),)
    return program


def failure(start, steps):
    """The index of the first elementary step that fails, or None."""
    size = len(start)
    for index, step in enumerate(steps):
        size += 1 if step[0] == "insert" else -1
        if size < 0:
            return index
    return None


def run_bounded(start, steps, capacity):
    """Like run, on a heap with a capacity; the index of the first step that fails in the place of None."""
    heap = sorted(start)
    removed = []
    for index, step in enumerate(steps):
        if step[0] == "insert":
            bisect.insort(heap, step[1])
            del heap[capacity:]
        elif heap:
            removed.append(heap.pop(0))
        else:
            return index
    return bag(heap), bag(removed)


def triples(values, largest, removals):
    """All triples that make an effect, of at most so many inserted numbers and removals."""
    for inserted in heaps(values, largest):
        for kept in sorted({part for size in range(len(inserted) + 1)
                            for part in itertools.combinations(inserted, size)}):
            for count in range(len(inserted) - len(kept), removals + 1):
                yield bag(inserted), count, bag(kept)


def normal(of_triple):
    """Elementary steps with this effect."""
    inserted, removals, survivors = of_triple
    consumed = numbers(inserted)
    for number in numbers(survivors):
        consumed.remove(number)
    steps = [("insert", number, 1) for number in consumed] + [("remove", 1)] * removals
    return steps + [("insert", number, 1) for number in numbers(survivors)]


@functools.lru_cache(maxsize=None)
def after(first, last):
    """The triple of running the second after the first."""
    return triple(normal(first) + normal(last))


def level(of_bag, number):
    return sum(count for each, count in of_bag if each <= number)


def greater(some, others):
    """Whether survivors are greater than others, or equal to them."""
    return all(level(some, number) >= level(others, number) for number, _ in some + others)


def moved(of_bag, by):
    """The bag with all numbers moved by the same amount."""
    return tuple((number + by, count) for number, count in of_bag)


def moved_program(program, by):
    steps = {"insert": lambda step: ("insert", step[1] + by, step[2]), "remove": lambda step: step,
             "repeat": lambda step: ("repeat", step[1], moved_program(step[2], by))}
    return tuple(steps[step[0]](step) for step in program)


def moved_sequence(sequence, by):
    return list(moved_program(sequence, by))


def told(start, steps):
    """What happens at each elementary step, up to the first that fails, one number at a time.

    Returns the contents before each step and at the end, the removed numbers, for each insertion the index
    of the step that removes its number, or None, and the index of the step that fails, or None.
    """
    # The numbers of the start came before all others.
    heap = sorted((number, -1) for number in start)
    contents, removed, fates = [], [], {}
    for index, step in enumerate(steps):
        contents.append(bag([number for number, _ in heap]))
        if step[0] == "insert":
            bisect.insort(heap, (step[1], index))
            fates[index] = None
        elif not heap:
            return contents, removed, fates, index
        else:
            number, origin = heap.pop(0)
            removed.append(number)
            if origin >= 0:
                fates[origin] = index
    contents.append(bag([number for number, _ in heap]))
    return contents, removed, fates, None


def run_sized(start, steps, capacity):
    """What sized steps leave of a heap, as a sorted tuple, or the index of the step that finds it empty."""
    heap = sorted(start)
    for index, step in enumerate(steps):
        if step[0] == "insert":
            bisect.insort(heap, step[1])
            if capacity is not None:
                del heap[capacity:]
        elif not heap:
            return index
        else:
            heap.pop(0 if step[0] == "remove" else -1)
    return tuple(heap)
