"""The interface: each name, its arguments and defaults, where it is defined, and its example."""

import importlib
import inspect
import unittest

FUNCTIONS = {
    "bags": {
        "is_bag": "(value)", "bag_of": "(numbers)", "numbers_in": "(bag, *, limit=1000)", "size_of": "(bag)",
        "at_most": "(bag, number)", "union": "(*bags)", "times": "(bag, count)", "contains": "(bag, other)",
        "difference": "(bag, other)", "smallest": "(bag, count)", "without_smallest": "(bag, count)",
    },
    "programs": {
        "check_program": "(program)", "step_count": "(program)", "insertion_count": "(program)",
        "removal_count": "(program)", "expand": "(program, *, limit=1000)", "step_at": "(program, index)",
        "prefix": "(program, index)", "suffix": "(program, index)",
    },
}

METHODS = {
    "Effect": {
        "__init__": "(self, inserted, removals, survivors)", "is_valid": "(inserted, removals, survivors)",
        "of": "(cls, program)", "identity": "(cls)", "apply": "(self, bag)", "removed": "(self, bag)",
        "normal": "(self)", "moved": "(self, number)", "__eq__": "(self, other)", "__repr__": "(self)",
    },
}

# The examples of the interface, as they stand there.
EXAMPLES = """
>>> from heapeffects.bags import is_bag
>>> is_bag(((3, 1), (2, 1)))
False

>>> from heapeffects.bags import bag_of
>>> bag_of([5, 2, 5])
((2, 1), (5, 2))

>>> from heapeffects.bags import numbers_in
>>> numbers_in(((2, 1), (5, 2)))
[2, 5, 5]

>>> from heapeffects.bags import at_most
>>> at_most(((2, 1), (5, 2)), 5)
3

>>> from heapeffects.bags import union
>>> union(((2, 1),), ((2, 1), (7, 1)))
((2, 2), (7, 1))

>>> from heapeffects.bags import difference
>>> difference(((2, 2), (5, 1)), ((2, 1),))
((2, 1), (5, 1))

>>> from heapeffects.bags import smallest
>>> smallest(((2, 2), (5, 1)), 1)
((2, 1),)

>>> from heapeffects.bags import without_smallest
>>> without_smallest(((2, 2), (5, 1)), 1)
((2, 1), (5, 1))

>>> from heapeffects.programs import check_program
>>> check_program((("repeat", 2, (("insert", 5),)),))
raises InvalidProgram(path=(0, 0))

>>> from heapeffects.programs import step_count
>>> step_count((("repeat", 10 ** 30, (("insert", 3, 1), ("insert", 7, 1), ("remove", 1))),))
3000000000000000000000000000000

>>> from heapeffects.programs import expand
>>> expand((("insert", 5, 2), ("remove", 1)))
[('insert', 5, 1), ('insert', 5, 1), ('remove', 1)]

>>> from heapeffects.programs import step_at
>>> step_at((("repeat", 10 ** 30, (("insert", 3, 1), ("insert", 7, 1), ("remove", 1))),), 10 ** 30)
('insert', 7, 1)

>>> from heapeffects.programs import expand, prefix
>>> expand(prefix((("repeat", 2, (("insert", 5, 1), ("remove", 1))),), 3))
[('insert', 5, 1), ('remove', 1), ('insert', 5, 1)]

>>> from heapeffects.effects import Effect
>>> Effect(((5, 1),), 0, ())
raises InvalidEffect(part='removals')

>>> from heapeffects.effects import Effect
>>> effect = Effect.of((("insert", 3, 1), ("insert", 7, 1), ("remove", 1)))
>>> [effect.inserted, effect.removals, effect.survivors, effect.needed]
[((3, 1), (7, 1)), 1, ((7, 1),), 0]

>>> from heapeffects.effects import Effect
>>> Effect.of((("insert", 5, 1), ("remove", 1))).apply(((3, 1),))
((5, 1),)

>>> from heapeffects.effects import Effect
>>> Effect.of((("remove", 1), ("insert", 5, 1))).apply(())
raises EmptyHeap(index=None)

>>> from heapeffects.effects import Effect
>>> Effect.of((("insert", 5, 1), ("remove", 1))).removed(((3, 1),))
((3, 1),)

>>> from heapeffects.effects import Effect
>>> Effect.of((("insert", 3, 1), ("insert", 7, 1), ("remove", 1))).normal()
(('insert', 3, 1), ('remove', 1), ('insert', 7, 1))
"""


def shown(example):
    """What an example shows: the repr of its last line, or the error that this raises."""
    *lines, last = [line[4:] for line in example.splitlines() if line.startswith(">>> ")]
    names = {}
    exec("\n".join(lines), names)
    try:
        return repr(eval(last, names))
    except Exception as error:
        (field, value), = vars(error).items()
        return f"raises {type(error).__name__}({field}={value!r})"


class Examples(unittest.TestCase):
    def test_each_example(self):
        examples = EXAMPLES.strip().split("\n\n")
        self.assertEqual(len(examples), 19)
        for example in examples:
            with self.subTest(example):
                self.assertEqual(shown(example), example.splitlines()[-1])


class Signatures(unittest.TestCase):
    def test_functions(self):
        for file, functions in FUNCTIONS.items():
            module = importlib.import_module("heapeffects." + file)
            for name, signature in functions.items():
                with self.subTest(name):
                    function = getattr(module, name)
                    self.assertTrue(inspect.isfunction(function))
                    self.assertEqual(function.__module__, module.__name__)
                    self.assertEqual(str(inspect.signature(function)), signature)

    def test_methods_stand_in_the_class_itself(self):
        effects = importlib.import_module("heapeffects.effects")
        self.assertEqual(effects.Effect.__module__, "heapeffects.effects")
        for name, signature in METHODS["Effect"].items():
            with self.subTest(name):
                method = vars(effects.Effect)[name]
                function = getattr(method, "__func__", method)
                self.assertEqual(str(inspect.signature(function)), signature)

    def test_kinds_of_the_methods(self):
        effect = vars(importlib.import_module("heapeffects.effects").Effect)
        self.assertIsInstance(effect["is_valid"], staticmethod)
        self.assertIsInstance(effect["of"], classmethod)
        self.assertIsInstance(effect["identity"], classmethod)
        for name in ("inserted", "removals", "survivors", "consumed", "needed"):
            self.assertIsInstance(effect[name], property)


if __name__ == "__main__":
    unittest.main()
