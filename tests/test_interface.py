"""The interface: each name, its arguments and defaults, where it is defined, and its example."""

import importlib
import inspect
import unittest

FUNCTIONS = {
    "bags": {
        "is_bag": "(value)", "bag_of": "(numbers)", "numbers_in": "(bag, *, limit=1000)", "size_of": "(bag)",
        "at_most": "(bag, number)", "union": "(*bags)", "times": "(bag, count)", "contains": "(bag, other)",
        "difference": "(bag, other)", "smallest": "(bag, count)", "without_smallest": "(bag, count)",
    },
    "programs": {
        "check_program": "(program)", "step_count": "(program)", "insertion_count": "(program)",
        "removal_count": "(program)", "expand": "(program, *, limit=1000)", "step_at": "(program, index)",
        "prefix": "(program, index)", "suffix": "(program, index)",
    },
    "heaps": {
        "heaps_along": "(bag, program, *, limit=1000)", "removed_along": "(bag, program, *, limit=1000)",
    },
    "algebra": {
        "compose": "(*effects)", "power": "(effect, count)", "commute": "(first, second)",
        "root": "(effect, count)", "exponent": "(effect, base)",
    },
    "separation": {
        "separating_heap": "(first, second)", "identify": "(low, high, size, low_result, high_result)",
    },
    "division": {"right_quotient": "(whole, first)", "left_quotient": "(whole, last)"},
    "sequences": {
        "check_sequence": "(sequence)", "effect_of": "(sequence)", "count_sequences": "(effect)",
        "sequence_at": "(effect, index)", "index_of": "(sequence)", "all_sequences": "(effect)",
    },
    "derivations": {
        "allowed_exchanges": "(sequence)", "derivation": "(sequence, target)",
        "check_derivation": "(sequence, target, value)",
    },
    "histories": {
        "first_failure": "(bag, program)", "heap_after": "(bag, program, index)",
        "removed_at": "(bag, program, ordinal)", "fate": "(bag, program, index)",
        "removal_bound": "(program, ordinal)",
    },
    "plans": {
        "distance": "(start, goal)", "plan": "(start, goal, *, stock=None)", "preimage": "(effect, result)",
    },
    "observations": {
        "agrees": "(effect, observations)", "possible_survivors": "(inserted, removals, observations)",
        "question_size": "(inserted, removals, observations)",
    },
    "formats": {
        "format_bag": "(bag)", "format_program": "(program)", "format_effect": "(effect)",
        "parse_bag": "(text)", "parse_program": "(text)", "parse_effect": "(text)",
    },
}

# The methods of each class that stand in the class itself, by its file and name.
METHODS = {
    ("effects", "Effect"): {
        "__init__": "(self, inserted, removals, survivors)", "is_valid": "(inserted, removals, survivors)",
        "of": "(cls, program)", "identity": "(cls)", "apply": "(self, bag)", "removed": "(self, bag)",
        "normal": "(self)", "moved": "(self, number)", "__eq__": "(self, other)", "__repr__": "(self)",
    },
    ("heaps", "Heap"): {
        "__init__": "(self, bag=())", "of": "(cls, *numbers)", "push": "(self, number, *, count=1)",
        "remove_smallest": "(self, *, count=1)", "run": "(self, program)", "copy": "(self)",
        "__eq__": "(self, other)", "__repr__": "(self)",
    },
    ("heaps", "RecordedHeap"): {"__init__": "(self, bag=())", "undo": "(self)"},
    ("heaps", "BoundedHeap"): {
        "__init__": "(self, bag=(), *, capacity)", "resize": "(self, capacity)", "run": "(self, program)",
    },
    ("sized", "SizedEffect"): {
        "__init__": "(self, steps, *, size, capacity=None)", "apply": "(self, bag)", "level": "(self, number)",
        "then": "(self, other)", "__eq__": "(self, other)",
    },
    ("sessions", "Session"): {
        "__init__": "(self, bag=())", "run": "(self, user, program)", "undo": "(self, user)", "effect": "(self, user)",
        "copy": "(self)", "__eq__": "(self, other)",
    },
}

# Those of them that are static methods, class methods and properties.
STATIC = {("effects", "Effect"): ("is_valid",)}
OF_CLASSES = {("effects", "Effect"): ("of", "identity"), ("heaps", "Heap"): ("of",)}
PROPERTIES = {
    ("effects", "Effect"): ("inserted", "removals", "survivors", "consumed", "needed"),
    ("heaps", "Heap"): ("contents", "size", "smallest"),
    ("heaps", "RecordedHeap"): ("record",),
    ("heaps", "BoundedHeap"): ("capacity",),
    ("sized", "SizedEffect"): ("size", "capacity", "size_after"),
    ("sessions", "Session"): ("contents", "entries"),
}

# The examples of the interface, as they stand there.
EXAMPLES = """
>>> from heapeffects.bags import is_bag
>>> is_bag(((3, 1), (2, 1)))
False

>>> from heapeffects.bags import bag_of
>>> bag_of([5, 2, 5])
((2, 1), (5, 2))

>>> from heapeffects.bags import numbers_in
>>> numbers_in(((2, 1), (5, 2)))
[2, 5, 5]

>>> from heapeffects.bags import at_most
>>> at_most(((2, 1), (5, 2)), 5)
3

>>> from heapeffects.bags import union
>>> union(((2, 1),), ((2, 1), (7, 1)))
((2, 2), (7, 1))

>>> from heapeffects.bags import difference
>>> difference(((2, 2), (5, 1)), ((2, 1),))
((2, 1), (5, 1))

>>> from heapeffects.bags import smallest
>>> smallest(((2, 2), (5, 1)), 1)
((2, 1),)

>>> from heapeffects.bags import without_smallest
>>> without_smallest(((2, 2), (5, 1)), 1)
((2, 1), (5, 1))

>>> from heapeffects.programs import check_program
>>> check_program((("repeat", 2, (("insert", 5),)),))
raises InvalidProgram(path=(0, 0))

>>> from heapeffects.programs import step_count
>>> step_count((("repeat", 10 ** 30, (("insert", 3, 1), ("insert", 7, 1), ("remove", 1))),))
3000000000000000000000000000000

>>> from heapeffects.programs import expand
>>> expand((("insert", 5, 2), ("remove", 1)))
[('insert', 5, 1), ('insert', 5, 1), ('remove', 1)]

>>> from heapeffects.programs import step_at
>>> step_at((("repeat", 10 ** 30, (("insert", 3, 1), ("insert", 7, 1), ("remove", 1))),), 10 ** 30)
('insert', 7, 1)

>>> from heapeffects.programs import expand, prefix
>>> expand(prefix((("repeat", 2, (("insert", 5, 1), ("remove", 1))),), 3))
[('insert', 5, 1), ('remove', 1), ('insert', 5, 1)]

>>> from heapeffects.effects import Effect
>>> Effect(((5, 1),), 0, ())
raises InvalidEffect(part='removals')

>>> from heapeffects.effects import Effect
>>> effect = Effect.of((("insert", 3, 1), ("insert", 7, 1), ("remove", 1)))
>>> [effect.inserted, effect.removals, effect.survivors, effect.needed]
[((3, 1), (7, 1)), 1, ((7, 1),), 0]

>>> from heapeffects.effects import Effect
>>> Effect.of((("insert", 5, 1), ("remove", 1))).apply(((3, 1),))
((5, 1),)

>>> from heapeffects.effects import Effect
>>> Effect.of((("remove", 1), ("insert", 5, 1))).apply(())
raises EmptyHeap(index=None)

>>> from heapeffects.effects import Effect
>>> Effect.of((("insert", 5, 1), ("remove", 1))).removed(((3, 1),))
((3, 1),)

>>> from heapeffects.effects import Effect
>>> Effect.of((("insert", 3, 1), ("insert", 7, 1), ("remove", 1))).normal()
(('insert', 3, 1), ('remove', 1), ('insert', 7, 1))

>>> from heapeffects.heaps import heaps_along
>>> list(heaps_along(((5, 1),), (("insert", 3, 1), ("remove", 2))))
[((5, 1),), ((3, 1), (5, 1)), ((5, 1),), ()]

>>> from heapeffects.heaps import removed_along
>>> list(removed_along(((5, 1),), (("insert", 3, 1), ("remove", 2))))
[3, 5]

>>> from heapeffects.heaps import Heap
>>> heap = Heap.of(4, 9, 4)
>>> heap.remove_smallest(count=2)
((4, 2),)

>>> from heapeffects.heaps import Heap
>>> heap = Heap.of(4)
>>> heap.remove_smallest(count=2)
raises EmptyHeap(index=1)

>>> from heapeffects.heaps import Heap
>>> heap = Heap.of(4, 9)
>>> removed = heap.run((("insert", 6, 1), ("remove", 2)))
>>> (removed, heap.contents)
(((4, 1), (6, 1)), ((9, 1),))

>>> from heapeffects.heaps import RecordedHeap
>>> heap = RecordedHeap.of(4)
>>> heap.push(2)
>>> heap.undo()
>>> (heap.contents, heap.record)
(((4, 1),), [])

>>> from heapeffects.heaps import BoundedHeap
>>> heap = BoundedHeap(((1, 2),), capacity=2)
>>> heap.push(0)
>>> heap.contents
((0, 1), (1, 1))

>>> from heapeffects.effects import Effect
>>> from heapeffects.algebra import power
>>> effect = Effect.of((("insert", 3, 1), ("insert", 7, 1), ("remove", 1)))
>>> power(effect, 10 ** 30).survivors
((7, 1000000000000000000000000000000),)

>>> from heapeffects.effects import Effect
>>> from heapeffects.algebra import commute
>>> commute(Effect.of((("insert", 5, 1),)), Effect.of((("remove", 1),)))
False

>>> from heapeffects.effects import Effect
>>> from heapeffects.algebra import power, root
>>> effect = Effect.of((("insert", 3, 1), ("insert", 7, 1), ("remove", 1)))
>>> root(power(effect, 6), 3) == power(effect, 2)
True

>>> from heapeffects.effects import Effect
>>> from heapeffects.algebra import exponent, power
>>> effect = Effect.of((("insert", 3, 1), ("insert", 7, 1), ("remove", 1)))
>>> (exponent(power(effect, 9), effect), exponent(effect, power(effect, 2)))
(9, None)

>>> from heapeffects.effects import Effect
>>> from heapeffects.separation import separating_heap
>>> separating_heap(Effect.of((("insert", 5, 1), ("remove", 1))), Effect.of((("remove", 1), ("insert", 5, 1))))
()

>>> from heapeffects.separation import identify
>>> effect = identify(5, 5, 1, ((5, 1),), ((6, 1),))
>>> [effect.inserted, effect.removals, effect.survivors]
[((5, 1),), 1, ()]

>>> from heapeffects.effects import Effect
>>> from heapeffects.algebra import power
>>> from heapeffects.division import right_quotient
>>> effect = Effect.of((("insert", 3, 1), ("insert", 7, 1), ("remove", 1)))
>>> right_quotient(power(effect, 2), effect).survivors
((7, 1),)

>>> from heapeffects.sequences import check_sequence
>>> check_sequence([("remove", 1), ("insert", 5, 2)])
raises InvalidSequence(index=1)

>>> from heapeffects.effects import Effect
>>> from heapeffects.sequences import count_sequences
>>> count_sequences(Effect.of((("insert", 3, 1), ("insert", 7, 1), ("remove", 1))))
3

>>> from heapeffects.effects import Effect
>>> from heapeffects.sequences import sequence_at
>>> sequence_at(Effect.of((("insert", 3, 1), ("insert", 7, 1), ("remove", 1))), 1)
[('insert', 3, 1), ('remove', 1), ('insert', 7, 1)]

>>> from heapeffects.sequences import index_of
>>> index_of([("insert", 7, 1), ("insert", 3, 1), ("remove", 1)])
2

>>> from heapeffects.derivations import allowed_exchanges
>>> allowed_exchanges([("insert", 3, 1), ("insert", 7, 1), ("remove", 1)])
[0, 1]

>>> from heapeffects.derivations import check_derivation
>>> check_derivation([("insert", 7, 1), ("insert", 3, 1), ("remove", 1)], [("insert", 3, 1), ("remove", 1), ("insert", 7, 1)], [0, 1])
True

>>> from heapeffects.histories import first_failure
>>> first_failure(((1, 5),), (("repeat", 10 ** 30, (("remove", 2), ("insert", 9, 1))),))
13

>>> from heapeffects.histories import heap_after
>>> heap_after((), (("repeat", 10 ** 30, (("insert", 3, 1), ("insert", 7, 1), ("remove", 1))),), 3 * 10 ** 30)
((7, 1000000000000000000000000000000),)

>>> from heapeffects.histories import removed_at
>>> removed_at((), (("repeat", 10 ** 30, (("insert", 3, 1), ("insert", 7, 1), ("remove", 1))),), 10)
3

>>> from heapeffects.histories import fate
>>> [fate((), (("repeat", 10 ** 30, (("insert", 3, 1), ("insert", 7, 1), ("remove", 1))),), index) for index in (0, 1)]
[2, None]

>>> from heapeffects.histories import removal_bound
>>> removal_bound((("insert", 3, 1), ("insert", 7, 1), ("remove", 1)), 0)
3

>>> from heapeffects.plans import distance
>>> distance(((1, 1), (5, 1)), ((5, 1), (6, 1)))
2

>>> from heapeffects.plans import plan
>>> plan(((1, 1), (5, 1)), ((5, 1), (6, 1)))
(('remove', 1), ('insert', 6, 1))

>>> from heapeffects.plans import plan
>>> plan(((1, 1), (5, 1)), ((5, 1), (6, 1)), stock=((7, 1),))
None

>>> from heapeffects.effects import Effect
>>> from heapeffects.plans import preimage
>>> effect = Effect.of((("insert", 5, 1), ("remove", 1)))
>>> effect.apply(preimage(effect, ((5, 1),)))
((5, 1),)

>>> from heapeffects.sized import SizedEffect
>>> SizedEffect([("insert", 2), ("remove_greatest",)], size=2).apply(((1, 1), (5, 1)))
((1, 1), (2, 1))

>>> from heapeffects.sized import SizedEffect
>>> SizedEffect([("insert", 2), ("remove_greatest",)], size=2).level(2)
(1, 1, 2)

>>> from heapeffects.observations import possible_survivors
>>> possible_survivors(((3, 1), (7, 1)), 1, [])
(3, ((7, 1),), ((3, 1), (7, 1)))

>>> from heapeffects.observations import question_size
>>> question_size(((3, 1), (7, 1)), 1, [])
0

>>> from heapeffects.sessions import Session
>>> session = Session()
>>> session.run("ann", (("insert", 3, 1),))
>>> removed = session.run("bo", (("insert", 2, 1), ("remove", 1)))
>>> program = session.undo("ann")
>>> (removed, program, session.contents)
(((2, 1),), (('insert', 3, 1),), ())

>>> from heapeffects.formats import format_bag
>>> format_bag(((-2, 1), (5, 3)))
'-2 5x3'

>>> from heapeffects.formats import format_program
>>> format_program((("insert", 5, 2), ("repeat", 3, (("remove", 1),))))
'+5x2 [ ! ]3'

>>> from heapeffects.effects import Effect
>>> from heapeffects.formats import format_effect
>>> format_effect(Effect.of((("insert", 3, 1), ("insert", 7, 1), ("remove", 1))))
'3 7 | 1 | 7'

>>> from heapeffects.formats import parse_bag
>>> parse_bag('5 3')
raises ParseError(position=1)
"""


def shown(example):
    """What an example shows: the repr of its last line, or the error that this raises."""
    *lines, last = [line[4:] for line in example.splitlines() if line.startswith(">>> ")]
    names = {}
    exec("\n".join(lines), names)
    try:
        return repr(eval(last, names))
    except Exception as error:
        (field, value), = vars(error).items()
        return f"raises {type(error).__name__}({field}={value!r})"


class Examples(unittest.TestCase):
    def test_each_example(self):
        examples = EXAMPLES.strip().split("\n\n")
        self.assertEqual(len(examples), 57)
        for example in examples:
            with self.subTest(example):
                self.assertEqual(shown(example), example.splitlines()[-1])


class Signatures(unittest.TestCase):
    def test_functions(self):
        for file, functions in FUNCTIONS.items():
            module = importlib.import_module("heapeffects." + file)
            for name, signature in functions.items():
                with self.subTest(name):
                    function = getattr(module, name)
                    self.assertTrue(inspect.isfunction(function))
                    self.assertEqual(function.__module__, module.__name__)
                    self.assertEqual(str(inspect.signature(function)), signature)

    def found(self, file, name):
        """A class of the interface."""
        module = importlib.import_module("heapeffects." + file)
        self.assertEqual(getattr(module, name).__module__, module.__name__)
        return getattr(module, name)

    def test_methods_stand_in_the_class_itself(self):
        for place, methods in METHODS.items():
            for name, signature in methods.items():
                with self.subTest(place + (name,)):
                    method = vars(self.found(*place))[name]
                    function = getattr(method, "__func__", method)
                    self.assertEqual(str(inspect.signature(function)), signature)

    def test_kinds_of_the_methods(self):
        for kind, table in ((staticmethod, STATIC), (classmethod, OF_CLASSES), (property, PROPERTIES)):
            for place, names in table.items():
                for name in names:
                    with self.subTest(place + (name,)):
                        self.assertIsInstance(vars(self.found(*place))[name], kind)

    def test_base_classes(self):
        heap = self.found("heaps", "Heap")
        self.assertEqual(heap.__bases__, (object,))
        self.assertEqual(self.found("heaps", "RecordedHeap").__bases__, (heap,))
        self.assertEqual(self.found("heaps", "BoundedHeap").__bases__, (heap,))
        for place in (("effects", "Effect"), ("sized", "SizedEffect"), ("sessions", "Session")):
            self.assertEqual(self.found(*place).__bases__, (object,))

    def test_methods_that_are_inherited_take_the_same_arguments(self):
        for name in ("RecordedHeap", "BoundedHeap"):
            for method, signature in METHODS["heaps", "Heap"].items():
                if method not in ("__init__", "of"):
                    self.assertEqual(str(inspect.signature(getattr(self.found("heaps", name), method))), signature)


if __name__ == "__main__":
    unittest.main()
