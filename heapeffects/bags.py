"""Bags: multisets of numbers, as ascending tuples of tuples (number, count)."""

from heapeffects.errors import InvalidBag, InvalidNumber, LimitExceeded
from heapeffects.integers import check_count, check_number, is_count, is_number


def is_bag(value):
    """Whether any value is a bag."""
    if not isinstance(value, tuple) or not all([_is_entry(entry) for entry in value]):
        return False
    return all([entry[0] < following[0] for entry, following in zip(value, value[1:])])


def _is_entry(value):
    if not isinstance(value, tuple) or len(value) != 2:
        return False
    return is_number(value[0]) and is_count(value[1]) and value[1] >= 1


def check_bag(bag):
    if not is_bag(bag):
        raise InvalidBag(bag)


def bag_of(numbers):
    """The bag of a list of numbers."""
    if not isinstance(numbers, list):
        raise InvalidNumber(numbers)
    counts = {}
    for number in numbers:
        check_number(number)
        counts[number] = counts.get(number, 0) + 1
    return _bag_from(counts)


def _bag_from(counts):
    """The bag in which each number occurs as often as the dict says, which may be 0 times."""
    return tuple([(number, counts[number]) for number in sorted(counts) if counts[number] > 0])


def numbers_in(bag, *, limit=1000):
    """The ascending list of the numbers of a bag, each as often as it occurs."""
    check_bag(bag)
    check_count(limit)
    size = size_of(bag)
    if size > limit:
        raise LimitExceeded(size)
    numbers = []
    for number, count in bag:
        numbers.extend([number] * count)
    return numbers


def size_of(bag):
    """How many numbers a bag holds, each counted as often as it occurs."""
    check_bag(bag)
    return sum([entry[1] for entry in bag])


def at_most(bag, number):
    """How many of the numbers in a bag are at most this number."""
    check_bag(bag)
    check_number(number)
    return sum([entry[1] for entry in bag if entry[0] <= number])


def union(*bags):
    """The bag of everything that is in any of the bags."""
    for bag in bags:
        check_bag(bag)
    counts = {}
    for bag in bags:
        for number, count in bag:
            counts[number] = counts.get(number, 0) + count
    return _bag_from(counts)


def times(bag, count):
    """The union of so many copies of a bag."""
    check_bag(bag)
    check_count(count)
    if count == 0:
        return ()
    return tuple([(number, many * count) for number, many in bag])


def contains(bag, other):
    """Whether every number occurs in the bag at least as often as in the other one."""
    return difference(bag, other) is not None


def difference(bag, other):
    """The bag without what is in the other one, or None if that is not contained in it."""
    check_bag(bag)
    check_bag(other)
    counts = dict(bag)
    for number, count in other:
        counts[number] = counts.get(number, 0) - count
    if any([count < 0 for count in counts.values()]):
        return None
    return _bag_from(counts)


def smallest(bag, count):
    """The bag of the count smallest numbers; all of them, if there are fewer."""
    check_bag(bag)
    check_count(count)
    return cut(bag, count)[0]


def without_smallest(bag, count):
    """The bag of all numbers but the count smallest."""
    check_bag(bag)
    check_count(count)
    return cut(bag, count)[1]


def cut(bag, count):
    """The bag of the count smallest numbers, and the bag of the others."""
    lower = []
    upper = []
    left = count
    for number, many in bag:
        taken = min(many, left)
        left = left - taken
        if taken > 0:
            lower.append((number, taken))
        if taken < many:
            upper.append((number, many - taken))
    return tuple(lower), tuple(upper)


def with_one(bag, number):
    """The bag with one more of a number."""
    # Joining slices keeps many single steps fast: nothing but the place of the number is searched for.
    at = _place(bag, number)
    if at < len(bag) and bag[at][0] == number:
        return bag[:at] + ((number, bag[at][1] + 1),) + bag[at + 1:]
    return bag[:at] + ((number, 1),) + bag[at:]


def without_one(bag, number):
    """The bag with one less of a number that it holds."""
    at = _place(bag, number)
    count = bag[at][1]
    if count == 1:
        return bag[:at] + bag[at + 1:]
    return bag[:at] + ((number, count - 1),) + bag[at + 1:]


def _place(bag, number):
    """The index of the first entry whose number is not smaller than this one."""
    low = 0
    high = len(bag)
    while low < high:
        middle = (low + high) // 2
        if bag[middle][0] < number:
            low = middle + 1
        else:
            high = middle
    return low
