"""Points [2] and the interface of heapeffects/errors.py: the error classes."""

import copy
import pickle
import unittest

from heapeffects import errors
from tests.wrong_values import HOSTILE

FIELDS = {
    "InvalidNumber": "value", "InvalidCount": "value", "InvalidBag": "value", "InvalidProgram": "path",
    "InvalidEffect": "part", "InvalidSequence": "index", "InvalidObservations": "index", "InvalidUser": "value",
    "ParseError": "position",
}

OTHERS = {"EmptyHeap": (LookupError, "index"), "OutOfRange": (IndexError, "value"),
          "LimitExceeded": (OverflowError, "count")}

VALUES = (None, True, 0, -1, 10 ** 5000, "", "a text", b"", (), (0, 1), [], [1], {}, 1.5, int, object(), HOSTILE,
          ValueError("inner"))


class Classes(unittest.TestCase):
    def test_base_class(self):
        self.assertEqual(errors.HeapError.__bases__, (ValueError,))
        self.assertEqual(errors.HeapError.__module__, "heapeffects.errors")

    def test_each_heap_error_is_directly_under_the_base_class(self):
        for name in FIELDS:
            with self.subTest(name):
                self.assertEqual(getattr(errors, name).__bases__, (errors.HeapError,))

    def test_the_others_do_not_inherit_from_it(self):
        for name, (base, _) in OTHERS.items():
            with self.subTest(name):
                self.assertEqual(getattr(errors, name).__bases__, (base,))
        self.assertEqual(errors.NothingToUndo.__bases__, (RuntimeError,))

    def test_where_they_are_defined(self):
        for name in [*FIELDS, *OTHERS, "NothingToUndo"]:
            self.assertEqual(getattr(errors, name).__module__, "heapeffects.errors")
            self.assertEqual(getattr(errors, name).__name__, name)


class Fields(unittest.TestCase):
    def fields(self):
        return {**FIELDS, **{name: field for name, (_, field) in OTHERS.items()}}

    def test_made_from_any_value_by_position_and_by_name(self):
        for name, field in self.fields().items():
            kind = getattr(errors, name)
            for value in VALUES:
                for error in (kind(value), kind(**{field: value})):
                    self.assertIs(getattr(error, field), value)
                    self.assertIsInstance(str(error), str)
                    self.assertIsInstance(repr(error), str)

    def test_each_takes_exactly_its_field(self):
        for name, field in self.fields().items():
            kind = getattr(errors, name)
            with self.subTest(name):
                self.assertRaises(TypeError, kind)
                self.assertRaises(TypeError, kind, 1, 2)
                self.assertRaises(TypeError, kind, **{field + "s": 1})

    def test_nothing_to_undo_has_no_field(self):
        self.assertEqual(vars(errors.NothingToUndo()), {})

    def test_the_base_class_may_be_made_and_caught(self):
        self.assertIsInstance(errors.HeapError("wrong"), ValueError)
        for name in FIELDS:
            with self.assertRaises(errors.HeapError):
                raise getattr(errors, name)(0)

    def test_copies_keep_the_field(self):
        for name, field in self.fields().items():
            for error in (getattr(errors, name)((1, 2)), getattr(errors, name)(**{field: (1, 2)})):
                for other in (copy.copy(error), pickle.loads(pickle.dumps(error))):
                    self.assertIs(type(other), type(error))
                    self.assertEqual(getattr(other, field), (1, 2))


if __name__ == "__main__":
    unittest.main()
