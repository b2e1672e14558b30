"""Which values are numbers and counts."""

from heapeffects.errors import InvalidCount, InvalidNumber


def is_number(value):
    # Python counts True and False among its integers, this package does not.
    return isinstance(value, int) and not isinstance(value, bool)


def is_count(value):
    return is_number(value) and value >= 0


def check_number(number):
    if not is_number(number):
        raise InvalidNumber(number)


def check_count(count):
    if not is_count(count):
        raise InvalidCount(count)


def check_capacity(capacity, size):
    """Raise InvalidCount unless this may be the capacity of a heap that holds so many numbers."""
    if not is_count(capacity) or capacity < 1 or capacity < size:
        raise InvalidCount(capacity)
