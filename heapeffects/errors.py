"""The errors of the package.

The messages are fixed texts: a message that shows the value could itself fail, as any value may be given.
"""


class HeapError(ValueError):
    """The base class of the errors about wrong arguments."""


class InvalidNumber(HeapError):
    """An argument that must be a number is not one."""

    def __init__(self, value):
        HeapError.__init__(self, "not a number (see the field value)")
        self.value = value


class InvalidCount(HeapError):
    """An argument that must be a count is not one, or not one that fits."""

    def __init__(self, value):
        HeapError.__init__(self, "not a count that may stand here (see the field value)")
        self.value = value


class InvalidBag(HeapError):
    """An argument that must be a bag is not one."""

    def __init__(self, value):
        HeapError.__init__(self, "not a bag (see the field value)")
        self.value = value


class InvalidProgram(HeapError):
    """An argument that must be a program is not one; the path leads to its first invalid step."""

    def __init__(self, path):
        HeapError.__init__(self, "not a program (the field path leads to the first invalid step)")
        self.path = path


class InvalidEffect(HeapError):
    """Something is not an effect; the part tells which part of it is wrong."""

    def __init__(self, part):
        HeapError.__init__(self, "not an effect that may stand here (see the field part)")
        self.part = part


class InvalidSequence(HeapError):
    """An argument that must be a sequence is not one; the index is that of its first invalid item."""

    def __init__(self, index):
        HeapError.__init__(self, "not a sequence (the field index tells the first invalid item)")
        self.index = index


class InvalidObservations(HeapError):
    """An argument that must be observations is not; the index is that of the first invalid item."""

    def __init__(self, index):
        HeapError.__init__(self, "not observations (the field index tells the first invalid item)")
        self.index = index


class InvalidUser(HeapError):
    """An argument that must be a user is not one."""

    def __init__(self, value):
        HeapError.__init__(self, "not a user (see the field value)")
        self.value = value


class ParseError(HeapError):
    """A text cannot be read; the position is that of the first word that cannot stand there."""

    def __init__(self, position):
        HeapError.__init__(self, "not a text of the format (the field position tells the word)")
        self.position = position


class EmptyHeap(LookupError):
    """A removal fails because the heap is empty; the index tells which one."""

    def __init__(self, index):
        LookupError.__init__(self, "a removal from an empty heap (see the field index)")
        self.index = index


class OutOfRange(IndexError):
    """There is nothing at this index."""

    def __init__(self, value):
        IndexError.__init__(self, "there is nothing at this index (see the field value)")
        self.value = value


class LimitExceeded(OverflowError):
    """There are more than the limit allows; the count tells how many."""

    def __init__(self, count):
        OverflowError.__init__(self, "more than the limit allows (see the field count)")
        self.count = count


class NothingToUndo(RuntimeError):
    """There is nothing that could be taken back."""

    def __init__(self):
        RuntimeError.__init__(self, "there is nothing to undo")
