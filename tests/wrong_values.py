"""Values that are not what is asked for, and a test case that looks at the errors they lead to."""

import unittest

from heapeffects.effects import Effect


class Hostile:
    """An object that fails at whatever is asked of it."""

    def _fail(self, *_):
        raise AssertionError("this object is not to be touched")

    __eq__ = __ne__ = __lt__ = __le__ = __gt__ = __ge__ = __hash__ = _fail
    __len__ = __iter__ = __getitem__ = __bool__ = __index__ = __contains__ = _fail


HOSTILE = Hostile()

NOT_NUMBERS = (None, True, False, "", "5", b"5", (), (5,), [], [5], {}, {5}, {5: 1}, 5.0, 1j, int, object(), HOSTILE)

NOT_COUNTS = NOT_NUMBERS + (-1, -2, -10 ** 30)

NOT_BAGS = (
    None, True, False, 0, 5, "", "-", b"", [], {}, {5: 1}, {(5, 1)}, set(), 1.5, tuple, object(), HOSTILE,
    [(5, 1)],  # a list in the place of the bag
    ([5, 1],),  # a list in the place of an entry
    (5, 1),  # an entry in the place of the bag
    ((),), ((5,),), ((5, 1, 1),), (None,), ("51",), (HOSTILE,),
    ((5, 0),), ((5, -1),), ((5, True),), ((5, False),), ((5, None),), ((5, "1"),), ((5, 1.0),), ((5, HOSTILE),),
    ((True, 1),), ((False, 1),), ((None, 1),), (("5", 1),), ((5.0, 1),), (((5,), 1),), ((HOSTILE, 1),),
    ((5, 1), (5, 1)), ((5, 1), (2, 1)), ((1, 1), (3, 1), (2, 1)), ((1, 1), (2, 1), (2, 1)),
    ((1, 1), (2, 1), None), ((1, 1), (2, 0)), ((1, 1), (2, 1), (3, 10 ** 30), (3, 1)),
)

GOOD = ("insert", 5, 1)
INNER = (GOOD,)

# Single values that are no steps, wherever they stand.
NOT_STEPS = (
    None, True, 5, "insert", "remove", b"", [], {}, object(), HOSTILE, (), (GOOD,), ("insert",), ("remove",), ("repeat",),
    ["insert", 5, 1], ["remove", 1], ["repeat", 1, ()],
    ("insert", 5), ("insert", 5, 1, 1), ("remove", 1, 1), ("remove", 5, 1), ("repeat", 1), ("repeat", 1, (), 1),
    ("Insert", 5, 1), ("add", 5, 1), ("", 5, 1), ("pop", 1), ("loop", 1, ()), (b"insert", 5, 1), (b"remove", 1),
    (None, 5, 1), (HOSTILE, 5, 1), (HOSTILE, 1), (["insert"], 5, 1),
) + tuple(("insert", wrong, 1) for wrong in NOT_NUMBERS) + tuple(
    step for wrong in NOT_COUNTS
    for step in (("insert", 5, wrong), ("remove", wrong), ("repeat", wrong, ()), ("repeat", wrong, INNER))
) + tuple(("repeat", 1, wrong) for wrong in (None, True, 0, "", "insert", [], [GOOD], {}, HOSTILE))

NOT_TUPLES = (None, True, False, 0, 1, "", "-", b"", [], [GOOD], {}, set(), 1.5, tuple, object(), HOSTILE)

# Values that are no programs, each with the path to what is wrong.
NOT_PROGRAMS = tuple((value, ()) for value in NOT_TUPLES) + (
    (GOOD, (0,)),
    ((None,), (0,)),
    ((GOOD, ("remove", -1)), (1,)),
    ((GOOD, ("repeat", 2, (GOOD, GOOD, ("insert", 5)))), (1, 2)),
)

NOT_INDEXES = NOT_NUMBERS + (-1, -2, -10 ** 30)


# Single values that are no elementary steps, also some that are steps.
NOT_ELEMENTARY = NOT_STEPS + (
    ("insert", 5, 0), ("insert", 5, 2), ("insert", 5, 10 ** 30), ("remove", 0), ("remove", 2), ("remove", 10 ** 30),
    ("repeat", 1, ()), ("repeat", 1, INNER), ("repeat", 0, INNER), ("insert", 5), ("remove",), ("remove_greatest",),
)

NOT_LISTS = (None, True, False, 0, 1, "", "[]", b"", (), (GOOD,), {}, {GOOD: 1}, set(), 1.5, list, object(), HOSTILE)

# An effect's parts, texts and programs are no effects.
NOT_EFFECTS = (None, True, False, 0, 5, "", "effect", "Effect((), 0, ())", b"", (), ((), 0, ()), [], [()], {}, set(), 1.5,
               (GOOD,), Effect, Effect.identity, object(), HOSTILE)


class ErrorCase(unittest.TestCase):
    """A test case that knows what the package's errors look like."""

    def assert_error(self, kind, field, value, call, *arguments, **named):
        """The call raises an error of exactly this class whose field holds this very value."""
        with self.assertRaises(kind) as caught:
            call(*arguments, **named)
        error = caught.exception
        self.assertIs(type(error), kind)
        self.assertEqual(list(vars(error)), [field])
        found = getattr(error, field)
        if found is not value:
            self.assertEqual((type(found), found), (type(value), value))
