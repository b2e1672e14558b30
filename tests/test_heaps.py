"""Points [2], [3], [7], [8] and the interface of heapeffects/heaps.py."""

import inspect
import random
import unittest

from heapeffects.effects import Effect
from heapeffects.errors import (
    EmptyHeap, InvalidBag, InvalidCount, InvalidNumber, InvalidProgram, LimitExceeded, NothingToUndo,
)
from heapeffects.heaps import BoundedHeap, Heap, RecordedHeap, heaps_along, removed_along
from tests import by_hand
from tests.wrong_values import HOSTILE, NOT_BAGS, NOT_COUNTS, NOT_NUMBERS, NOT_PROGRAMS, ErrorCase

HUGE = 10 ** 30
BODY = (("insert", 3, 1), ("insert", 7, 1), ("remove", 1))
LOOP = (("repeat", HUGE, BODY),)
IDLE = (("repeat", HUGE, ()), ("repeat", HUGE, (("insert", 5, 0), ("repeat", 0, LOOP))), ("remove", 0))


def collected(generator):
    """What a generator yields, and the error that ends it, or None."""
    items = []
    try:
        for item in generator:
            items.append(item)
    except Exception as error:
        return items, error
    return items, None


def state(heap):
    """All that can be seen of a heap."""
    seen = [heap.contents, heap.size, heap.smallest, repr(heap)]
    if isinstance(heap, RecordedHeap):
        seen.append(heap.record)
    if isinstance(heap, BoundedHeap):
        seen.append(heap.capacity)
    return seen


class Walks(ErrorCase):
    """heaps_along and removed_along."""

    def test_they_are_generator_functions(self):
        for walk in (heaps_along, removed_along):
            self.assertTrue(inspect.isgeneratorfunction(walk))
            self.assertTrue(inspect.isgenerator(walk((), ())))

    def test_no_steps(self):
        self.assertEqual(list(heaps_along(((5, 2),), ())), [((5, 2),)])
        self.assertEqual(list(removed_along(((5, 2),), ())), [])
        self.assertEqual(list(heaps_along((), (("insert", 5, 0), ("remove", 0)))), [()])

    def walked(self, start, steps):
        """The heaps and the removed numbers on a sorted list, and the index of the step that fails."""
        failing = by_hand.failure(start, steps)
        done = steps[:failing]
        heaps = [by_hand.run(start, done[:index])[0] for index in range(len(done) + 1)]
        removed = []
        for index, step in enumerate(done):
            if step[0] == "remove":
                removed.append(heaps[index][0][0])
        return heaps, removed, failing

    def test_random_programs(self):
        source = random.Random(1)
        failed = 0
        for _ in range(300):
            program = by_hand.random_program(source, (-1, 2, 4, 9), 4, 3)
            steps = by_hand.steps_of(program)[:60]
            start = [source.choice((-5, 2, 3, 9)) for _ in range(source.randint(0, 4))]
            heaps, removed, failing = self.walked(start, steps)
            for walk, expected in ((heaps_along, heaps), (removed_along, removed)):
                items, error = collected(walk(by_hand.bag(start), tuple(steps)))
                self.assertEqual(items, expected)
                if failing is None:
                    self.assertIsNone(error)
                else:
                    failed += 1
                    self.assertIs(type(error), EmptyHeap)
                    self.assertEqual(error.index, failing)
        self.assertGreater(failed, 50)

    def test_loops_are_walked_turn_by_turn(self):
        program = (("repeat", 2, (("insert", 5, 2), ("remove", 1))), ("remove", 2))
        steps = tuple(by_hand.steps_of(program))
        self.assertEqual(list(heaps_along((), program)), list(heaps_along((), steps)))
        self.assertEqual(list(removed_along(((1, 1),), program)), [1, 5, 5, 5])

    def test_the_error_stands_in_the_place_of_the_first_missing_item(self):
        program = (("insert", 5, 1), ("remove", 3), ("insert", 6, 1))
        heaps = heaps_along(((9, 1),), program)
        self.assertEqual([next(heaps) for _ in range(4)], [((9, 1),), ((5, 1), (9, 1)), ((9, 1),), ()])
        self.assert_error(EmptyHeap, "index", 3, next, heaps)
        self.assertRaises(StopIteration, next, heaps)
        removed = removed_along(((9, 1),), program)
        self.assertEqual([next(removed), next(removed)], [5, 9])
        self.assert_error(EmptyHeap, "index", 3, next, removed)
        self.assertRaises(StopIteration, next, removed)

    def test_a_heap_of_any_counts(self):
        bag = ((1, HUGE), (5, HUGE), (9, 1))
        program = (("insert", 5, 1), ("insert", 0, 1), ("remove", 2))
        self.assertEqual(list(heaps_along(bag, program))[-1], ((1, HUGE - 1), (5, HUGE + 1), (9, 1)))
        self.assertEqual(list(removed_along(bag, program)), [0, 1])

    def test_repeats_without_elementary_steps_take_no_time(self):
        self.assertEqual(list(heaps_along(((5, 1),), IDLE)), [((5, 1),)])
        self.assertEqual(list(removed_along(((5, 1),), IDLE + (("remove", 1),), limit=1)), [5])

    def test_a_limit_that_is_reached_and_one_that_is_passed_by_one(self):
        for length in (1000, 1001):
            program = (("insert", 5, length - 400), ("repeat", 200, (("remove", 1), ("insert", 7, 1))))
            for walk, items in ((heaps_along, length + 1), (removed_along, 200)):
                self.assertEqual(len(list(walk((), program, limit=length))), items)
                walking = walk((), program, limit=length - 1)
                self.assert_error(LimitExceeded, "count", length, next, walking)
                if length == 1000:
                    self.assertEqual(len(list(walk((), program))), items)
                else:
                    self.assert_error(LimitExceeded, "count", 1001, next, walk((), program))
        for walk in (heaps_along, removed_along):
            self.assert_error(LimitExceeded, "count", 3 * HUGE, next, walk((), LOOP))
            self.assert_error(LimitExceeded, "count", 1, next, walk((), (("insert", 5, 1),), limit=0))
            # The limit comes before the removal that fails.
            self.assert_error(LimitExceeded, "count", 4, next, walk((), (("remove", 4),), limit=3))
            self.assert_error(EmptyHeap, "index", 0, list, walk((), (("remove", 4),), limit=4))
        self.assertEqual(list(heaps_along(((5, 1),), (), limit=0)), [((5, 1),)])

    def test_a_long_walk(self):
        program = tuple(("insert", number, 1) for number in range(300, 0, -1))
        program += (("repeat", 20000, (("insert", 0, 1), ("remove", 1), ("insert", 301, 1), ("remove", 1))),)
        many = 300 + 80000
        last = None
        for last in heaps_along((), program, limit=many):
            pass
        self.assertEqual(last, ((301, 300),))
        self.assertEqual(sum(removed_along((), program, limit=many)), sum(range(1, 301)) + 301 * (20000 - 300))

    def test_errors_come_when_they_are_iterated(self):
        for walk in (heaps_along, removed_along):
            for wrong in NOT_BAGS:
                walking = walk(wrong, None, limit=None)
                self.assert_error(InvalidBag, "value", wrong, next, walking)
            for wrong, path in NOT_PROGRAMS:
                walking = walk((), wrong, limit=None)
                self.assert_error(InvalidProgram, "path", path, next, walking)
            for wrong in NOT_COUNTS:
                walking = walk((), LOOP, limit=wrong)
                self.assert_error(InvalidCount, "value", wrong, next, walking)

    def test_arguments_by_name_and_the_limit_by_name_only(self):
        program = (("insert", 3, 1), ("remove", 2))
        self.assertEqual(list(removed_along(limit=3, program=program, bag=((5, 1),))), [3, 5])
        self.assertEqual(list(heaps_along(limit=3, program=program, bag=((5, 1),)))[-1], ())
        for walk in (heaps_along, removed_along):
            self.assertRaises(TypeError, walk, (), program, 3)

    def test_results_move_along(self):
        program = (("insert", 3, 2), ("repeat", 2, (("remove", 2), ("insert", 4, 1))))
        bag = ((2, 1), (9, 3))
        self.assertEqual(list(heaps_along(by_hand.moved(bag, -5), by_hand.moved_program(program, -5))),
                         [by_hand.moved(heap, -5) for heap in heaps_along(bag, program)])
        self.assertEqual(list(removed_along(by_hand.moved(bag, HUGE), by_hand.moved_program(program, HUGE))),
                         [number + HUGE for number in removed_along(bag, program)])


class PlainHeaps(ErrorCase):
    """class Heap."""

    def test_a_new_heap(self):
        self.assertEqual(state(Heap()), [(), 0, None, "Heap(())"])
        self.assertEqual(state(Heap(((2, 1), (5, HUGE)))),
                         [((2, 1), (5, HUGE)), HUGE + 1, 2, "Heap(((2, 1), (5, %d)))" % HUGE])
        self.assertEqual(Heap(bag=((-5, 1),)).smallest, -5)

    def test_of_numbers(self):
        self.assertEqual(Heap.of().contents, ())
        self.assertEqual(Heap.of(5, -2, 5, HUGE).contents, ((-2, 1), (5, 2), (HUGE, 1)))
        self.assertIs(type(Heap.of(5)), Heap)
        self.assertIs(type(RecordedHeap.of(5)), RecordedHeap)
        self.assertEqual(RecordedHeap.of(5, 5).contents, ((5, 2),))
        for wrong in NOT_NUMBERS:
            self.assert_error(InvalidNumber, "value", wrong, Heap.of, wrong)
            self.assert_error(InvalidNumber, "value", wrong, Heap.of, 5, wrong, None)
            self.assert_error(InvalidNumber, "value", wrong, RecordedHeap.of, 5, wrong, None)

    def test_insertions(self):
        heap = Heap(((5, 1),))
        self.assertIsNone(heap.push(3))
        self.assertIsNone(heap.push(count=HUGE, number=5))
        self.assertIsNone(heap.push(9, count=0))
        self.assertIsNone(heap.push(5, count=0))
        self.assertEqual(heap.contents, ((3, 1), (5, HUGE + 1)))
        self.assertRaises(TypeError, heap.push, 3, 1)
        self.assertEqual(heap.contents, ((3, 1), (5, HUGE + 1)))

    def test_removals(self):
        heap = Heap(((3, 2), (5, HUGE), (9, 1)))
        self.assertEqual(heap.remove_smallest(), ((3, 1),))
        self.assertEqual(heap.remove_smallest(count=0), ())
        self.assertEqual(heap.remove_smallest(count=HUGE), ((3, 1), (5, HUGE - 1)))
        self.assertEqual(heap.contents, ((5, 1), (9, 1)))
        self.assert_error(EmptyHeap, "index", 2, heap.remove_smallest, count=3)
        self.assert_error(EmptyHeap, "index", 2, heap.remove_smallest, count=HUGE)
        self.assertEqual(heap.contents, ((5, 1), (9, 1)))
        self.assertEqual(heap.remove_smallest(count=2), ((5, 1), (9, 1)))
        self.assertEqual(heap.remove_smallest(count=0), ())
        self.assert_error(EmptyHeap, "index", 0, heap.remove_smallest)
        self.assertRaises(TypeError, heap.remove_smallest, 0)

    def test_programs(self):
        heap = Heap(((5, 1),))
        self.assertEqual(heap.run(()), ())
        self.assertEqual(heap.run(program=IDLE), ())
        self.assertEqual(heap.run(LOOP), ((3, HUGE),))
        self.assertEqual(heap.contents, ((5, 1), (7, HUGE)))
        self.assertEqual(heap.run((("repeat", HUGE, (("remove", 1),)),)), ((5, 1), (7, HUGE - 1)))
        self.assertEqual(heap.contents, ((7, 1),))

    def test_a_program_that_fails_changes_nothing(self):
        for heap in (Heap(((5, 3),)), RecordedHeap(((5, 3),)), BoundedHeap(((5, 3),), capacity=4)):
            before = state(heap)
            for program, index in (((("remove", 4),), 3), ((("insert", 1, 1), ("remove", 9)), 5),
                                   ((("repeat", 5, (("insert", 1, 1), ("remove", 2))),), 11)):
                self.assert_error(EmptyHeap, "index", index, heap.run, program)
                self.assertEqual(state(heap), before)

    def test_failures_in_long_loops(self):
        drain = (("remove", 2), ("insert", 9, 1))
        self.assert_error(EmptyHeap, "index", 13, Heap(((1, 5),)).run, (("repeat", HUGE, drain),))
        self.assert_error(EmptyHeap, "index", 3 * (HUGE - 2) + 1, Heap(((1, HUGE - 1),)).run, (("repeat", HUGE, drain),))
        self.assertEqual(Heap(((1, HUGE + 1),)).run((("repeat", HUGE, drain),)), ((1, HUGE + 1), (9, HUGE - 1)))
        self.assert_error(EmptyHeap, "index", 3 * (HUGE - 1) + 1, Heap(((1, HUGE),)).run, (("repeat", HUGE, drain),))
        deep = by_hand.nested(7, drain, HUGE)
        self.assert_error(EmptyHeap, "index", 3 * (HUGE ** 5 - 1) + 1, Heap(((1, HUGE ** 5),)).run, deep)
        program = LOOP + (("remove", HUGE), ("repeat", HUGE, ()), ("remove", 5))
        self.assert_error(EmptyHeap, "index", 4 * HUGE + 2, Heap(((9, 2),)).run, program)
        grow = (("remove", 3), ("insert", 9, 4))
        self.assert_error(EmptyHeap, "index", 2, Heap(((1, 2),)).run, (("repeat", HUGE, grow),))
        self.assertEqual(Heap(((1, 3),)).run((("repeat", 2, grow),)), ((1, 3), (9, 3)))

    def test_failures_of_random_programs(self):
        source = random.Random(2)
        failed = 0
        for _ in range(600):
            program = by_hand.random_program(source, (2, 4), 4, 3)
            steps = by_hand.steps_of(program)
            size = source.randint(0, 5)
            failing = by_hand.failure([3] * size, steps)
            heap = Heap.of(*[3] * size)
            if failing is None:
                left, removed = by_hand.run([3] * size, steps)
                self.assertEqual((heap.run(program), heap.contents), (removed, left))
            else:
                failed += 1
                self.assert_error(EmptyHeap, "index", failing, heap.run, program)
        self.assertGreater(failed, 50)

    def test_a_program_acts_as_its_effect(self):
        source = random.Random(3)
        for _ in range(100):
            program = by_hand.random_program(source, (1, 2, 4), 4, 3)
            effect = Effect.of(program)
            heap = Heap(((0, 1), (2, 2), (3, effect.needed + 1)))
            start = heap.contents
            self.assertEqual(heap.run(program), effect.removed(start))
            self.assertEqual(heap.contents, effect.apply(start))
            heap = Heap.of(*[3] * effect.needed)
            start = heap.contents
            self.assertEqual(heap.run(program), effect.removed(start))
            self.assertEqual(heap.contents, effect.apply(start))
            if effect.needed > 0:
                self.assertRaises(EmptyHeap, Heap.of(*[3] * (effect.needed - 1)).run, program)

    def test_many_long_loops(self):
        turns = tuple(("repeat", HUGE, (("insert", number, 10 ** 99), ("remove", 10 ** 98))) for number in range(160))
        heap = Heap(tuple((number, 10 ** 99) for number in range(100)))
        heap.run(turns)
        self.assertEqual(heap.size, 10 ** 101 + 160 * HUGE * 9 * 10 ** 98)

    def test_results_move_along(self):
        program = (("insert", 3, 2), ("repeat", HUGE, (("insert", 4, 2), ("remove", 1))))
        for by in (-7, HUGE):
            heap, other = Heap(((2, 1), (9, 3))), Heap(by_hand.moved(((2, 1), (9, 3)), by))
            self.assertEqual(other.run(by_hand.moved_program(program, by)), by_hand.moved(heap.run(program), by))
            self.assertEqual(other.contents, by_hand.moved(heap.contents, by))
            self.assertEqual(other.remove_smallest(count=5), by_hand.moved(heap.remove_smallest(count=5), by))
            self.assertEqual(other.smallest, heap.smallest + by)


class RandomOperations(ErrorCase):
    """All three classes beside a sorted list."""

    COUNTS = (0, 0, 1, 1, 2, 3, 5)

    def check(self, heap, numbers, capacity=None):
        self.assertEqual((heap.contents, heap.size), (by_hand.bag(numbers), len(numbers)))
        self.assertEqual(heap.smallest, min(numbers, default=None))
        if capacity is not None:
            self.assertEqual(heap.capacity, capacity)

    def operation(self, source):
        kind = source.choice(("push", "push", "remove", "run"))
        if kind == "push":
            number, count = source.randint(-3, 6), source.choice(self.COUNTS)
            return (("insert", number, count),), lambda heap: heap.push(number, count=count)
        if kind == "remove":
            count = source.choice(self.COUNTS)
            return (("remove", count),), lambda heap: heap.remove_smallest(count=count)
        program = by_hand.random_program(source, (-1, 2, 4), 3, 2)
        return program, lambda heap: heap.run(program)

    def done(self, heap, numbers, program, call, capacity):
        """Do an operation to the heap; what the sorted list holds afterwards."""
        outcome = by_hand.run_bounded(numbers, by_hand.steps_of(program), capacity)
        before = state(heap)
        if isinstance(outcome, int):
            self.assert_error(EmptyHeap, "index", outcome, call, heap)
            self.assertEqual(state(heap), before)
            return None
        left, removed = outcome
        returned = call(heap)
        if returned is not None or removed:
            self.assertEqual(returned, removed)
        return by_hand.numbers(left)

    def test_plain_heaps(self):
        source = random.Random(4)
        for _ in range(40):
            heap, numbers = Heap(), []
            for _ in range(25):
                program, call = self.operation(source)
                left = self.done(heap, numbers, program, call, 10 ** 6)
                numbers = numbers if left is None else left
                self.check(heap, numbers)

    def test_recorded_heaps(self):
        source = random.Random(5)
        for _ in range(40):
            heap, history = RecordedHeap.of(1, 1), [(None, [1, 1])]
            for _ in range(30):
                if source.random() < 0.25 and len(history) > 1:
                    self.assertEqual(heap.undo(), history.pop()[0])
                elif source.random() < 0.15:
                    other = heap
                    heap = heap.copy()
                    other.push(5)
                    other.undo()
                    other.push(6)
                else:
                    program, call = self.operation(source)
                    left = self.done(heap, history[-1][1], program, call, 10 ** 6)
                    if left is not None:
                        history.append((heap.record[-1], left))
                self.check(heap, history[-1][1])
                self.assertEqual(heap.record, [entry[0] for entry in history[1:]])
            while len(history) > 1:
                self.assertEqual(heap.undo(), history.pop()[0])
                self.check(heap, history[-1][1])
            self.assertRaises(NothingToUndo, heap.undo)
            self.check(heap, [1, 1])

    def test_bounded_heaps(self):
        source = random.Random(6)
        for _ in range(60):
            capacity = source.randint(1, 6)
            heap, numbers = BoundedHeap(capacity=capacity), []
            for _ in range(25):
                if source.random() < 0.2:
                    asked = source.randint(0, 7)
                    if asked >= max(1, len(numbers)):
                        self.assertIsNone(heap.resize(asked))
                        capacity = asked
                    else:
                        self.assert_error(InvalidCount, "value", asked, heap.resize, asked)
                elif source.random() < 0.2:
                    other = heap
                    heap = heap.copy()
                    other.push(-9)
                    other.resize(99)
                else:
                    program, call = self.operation(source)
                    left = self.done(heap, numbers, program, call, capacity)
                    numbers = numbers if left is None else left
                self.check(heap, numbers, capacity)

    def test_huge_counts_without_steps(self):
        source = random.Random(7)
        for _ in range(30):
            heap, plain = RecordedHeap(), {}
            for _ in range(12):
                number, count = source.randint(0, 4), source.choice((0, 1, HUGE, HUGE + 1))
                heap.push(number, count=count)
                plain[number] = plain.get(number, 0) + count
            self.assertEqual(heap.contents, tuple((n, plain[n]) for n in sorted(plain) if plain[n]))
            total = heap.size
            removed = heap.remove_smallest(count=total // 2)
            self.assertEqual(sum(count for _, count in removed), total // 2)
            self.assertEqual(heap.size, total - total // 2)
            self.assert_error(EmptyHeap, "index", heap.size, heap.remove_smallest, count=heap.size + 1)


class Records(ErrorCase):
    """class RecordedHeap."""

    def test_the_record(self):
        heap = RecordedHeap(((5, 1),))
        self.assertEqual(heap.record, [])
        heap.push(3)
        heap.push(4, count=0)
        heap.remove_smallest()
        heap.remove_smallest(count=0)
        heap.run(LOOP)
        heap.run(())
        self.assertEqual(heap.record, [("insert", 3, 1), ("insert", 4, 0), ("remove", 1), ("remove", 0),
                                       ("run", LOOP), ("run", ())])
        self.assertEqual(heap.contents, ((5, 1), (7, HUGE)))

    def test_undo_down_to_the_empty_record_and_once_more(self):
        heap = RecordedHeap(((5, 1),))
        heap.push(3, count=HUGE)
        heap.push(4, count=0)
        heap.run(LOOP)
        heap.remove_smallest(count=0)
        heap.remove_smallest(count=2)
        self.assertEqual(heap.undo(), ("remove", 2))
        self.assertEqual(heap.contents, ((3, HUGE), (5, 1), (7, HUGE)))
        self.assertEqual(heap.undo(), ("remove", 0))
        self.assertEqual(heap.contents, ((3, HUGE), (5, 1), (7, HUGE)))
        self.assertEqual(heap.undo(), ("run", LOOP))
        self.assertEqual(heap.contents, ((3, HUGE), (5, 1)))
        self.assertEqual(heap.undo(), ("insert", 4, 0))
        self.assertEqual(heap.undo(), ("insert", 3, HUGE))
        self.assertEqual((heap.contents, heap.record), (((5, 1),), []))
        for _ in range(2):
            with self.assertRaises(NothingToUndo) as caught:
                heap.undo()
            self.assertEqual(vars(caught.exception), {})
            self.assertEqual((heap.contents, heap.record), (((5, 1),), []))
        self.assertRaises(NothingToUndo, RecordedHeap.of(1, 2).undo)

    def test_failing_calls_leave_no_record(self):
        heap = RecordedHeap(((5, 1),))
        heap.push(3)
        before = state(heap)
        for call, arguments, named in ((heap.push, (None,), {}), (heap.push, (3,), {"count": -1}),
                                       (heap.remove_smallest, (), {"count": 3}), (heap.run, ((("remove", 3),),), {}),
                                       (heap.remove_smallest, (), {"count": True}), (heap.run, (None,), {})):
            self.assertRaises((ValueError, EmptyHeap), call, *arguments, **named)
            self.assertEqual(state(heap), before)
        self.assertEqual(heap.undo(), ("insert", 3, 1))

    def test_returned_records_are_new(self):
        heap = RecordedHeap()
        heap.push(3)
        heap.record.clear()
        heap.record.append(("remove", 1))
        self.assertEqual(heap.record, [("insert", 3, 1)])
        self.assertIsNot(heap.record, heap.record)
        self.assertEqual(heap.undo(), ("insert", 3, 1))

    def test_copies_have_the_record_and_are_independent(self):
        heap = RecordedHeap(((5, 1),))
        heap.push(3)
        twin = heap.copy()
        self.assertIs(type(twin), RecordedHeap)
        self.assertEqual((twin.contents, twin.record), (heap.contents, heap.record))
        twin.push(4)
        self.assertEqual((heap.contents, heap.record), (((3, 1), (5, 1)), [("insert", 3, 1)]))
        self.assertEqual(heap.undo(), ("insert", 3, 1))
        heap.run(BODY)
        self.assertEqual(twin.record, [("insert", 3, 1), ("insert", 4, 1)])
        self.assertEqual([twin.undo(), twin.undo()], [("insert", 4, 1), ("insert", 3, 1)])
        self.assertEqual(twin.contents, ((5, 1),))
        self.assertRaises(NothingToUndo, twin.undo)
        self.assertEqual(heap.record, [("run", BODY)])


class Capacities(ErrorCase):
    """class BoundedHeap."""

    def test_a_new_heap(self):
        heap = BoundedHeap(((2, 1), (5, 2)), capacity=3)
        self.assertEqual(state(heap), [((2, 1), (5, 2)), 3, 2, "BoundedHeap(((2, 1), (5, 2)), capacity=3)", 3])
        self.assertEqual(state(BoundedHeap(capacity=1)), [(), 0, None, "BoundedHeap((), capacity=1)", 1])
        self.assertEqual(BoundedHeap(capacity=HUGE, bag=((5, HUGE),)).capacity, HUGE)
        self.assertRaises(TypeError, BoundedHeap, ())
        self.assertRaises(TypeError, BoundedHeap, (), 3)

    def test_a_capacity_that_equals_the_size_and_one_that_is_less(self):
        self.assertEqual(BoundedHeap(((5, HUGE),), capacity=HUGE).size, HUGE)
        self.assert_error(InvalidCount, "value", HUGE - 1, BoundedHeap, ((5, HUGE),), capacity=HUGE - 1)
        self.assert_error(InvalidCount, "value", 1, BoundedHeap, ((5, 1), (6, 1)), capacity=1)
        self.assertEqual(BoundedHeap(((5, 1),), capacity=1).capacity, 1)
        self.assert_error(InvalidCount, "value", 0, BoundedHeap, capacity=0)
        self.assert_error(InvalidCount, "value", 0, BoundedHeap, ((5, 1),), capacity=0)

    def test_wrong_arguments_from_the_left(self):
        for wrong in NOT_COUNTS:
            self.assert_error(InvalidCount, "value", wrong, BoundedHeap, capacity=wrong)
            self.assert_error(InvalidCount, "value", wrong, BoundedHeap, ((5, 1),), capacity=wrong)
            self.assert_error(InvalidCount, "value", wrong, BoundedHeap(capacity=5).resize, wrong)
        for wrong in NOT_BAGS:
            self.assert_error(InvalidBag, "value", wrong, BoundedHeap, wrong, capacity=3)
            self.assert_error(InvalidBag, "value", wrong, BoundedHeap, wrong, capacity=None)
            self.assert_error(InvalidBag, "value", wrong, BoundedHeap, capacity=0, bag=wrong)

    def test_insertions_drop_the_greatest(self):
        heap = BoundedHeap(((3, 1), (9, 1)), capacity=3)
        heap.push(5)
        self.assertEqual(heap.contents, ((3, 1), (5, 1), (9, 1)))
        heap.push(5)
        self.assertEqual(heap.contents, ((3, 1), (5, 2)))
        heap.push(7)
        heap.push(7, count=HUGE)
        self.assertEqual(heap.contents, ((3, 1), (5, 2)))
        heap.push(1, count=2)
        self.assertEqual(heap.contents, ((1, 2), (3, 1)))
        heap.push(number=0, count=HUGE)
        self.assertEqual(heap.contents, ((0, 3),))
        heap.push(-1, count=0)
        self.assertEqual(heap.contents, ((0, 3),))

    def test_the_capacity_1(self):
        heap = BoundedHeap(capacity=1)
        heap.push(5, count=2)
        heap.push(3)
        heap.push(4)
        self.assertEqual(heap.contents, ((3, 1),))
        self.assertEqual(heap.run((("insert", 9, 2), ("remove", 1), ("insert", 9, 2))), ((3, 1),))
        self.assertEqual(heap.contents, ((9, 1),))
        self.assert_error(EmptyHeap, "index", 2, heap.run, (("insert", 9, 1), ("remove", 2)))
        self.assertEqual(heap.contents, ((9, 1),))

    def test_removals_are_those_of_a_heap(self):
        heap = BoundedHeap(((3, 1), (9, 2)), capacity=5)
        self.assertEqual(heap.remove_smallest(count=2), ((3, 1), (9, 1)))
        self.assert_error(EmptyHeap, "index", 1, heap.remove_smallest, count=2)
        self.assertEqual((heap.contents, heap.capacity), (((9, 1),), 5))

    def test_resizing(self):
        heap = BoundedHeap(((3, 2), (9, 1)), capacity=4)
        self.assertIsNone(heap.resize(capacity=3))
        self.assertEqual((heap.contents, heap.capacity), (((3, 2), (9, 1)), 3))
        self.assert_error(InvalidCount, "value", 2, heap.resize, 2)
        self.assertEqual((heap.contents, heap.capacity), (((3, 2), (9, 1)), 3))
        heap.push(1)
        self.assertEqual(heap.contents, ((1, 1), (3, 2)))
        heap.resize(HUGE)
        heap.push(9, count=HUGE)
        self.assertEqual(heap.contents, ((1, 1), (3, 2), (9, HUGE - 3)))
        empty = BoundedHeap(capacity=5)
        self.assert_error(InvalidCount, "value", 0, empty.resize, 0)
        empty.resize(1)
        self.assertEqual(empty.capacity, 1)

    def test_dropped_numbers_are_not_removed_ones(self):
        heap = BoundedHeap(((5, 2),), capacity=2)
        self.assertEqual(heap.run((("insert", 1, 1), ("remove", 1), ("insert", 9, 1), ("insert", 9, 1))), ((1, 1),))
        self.assertEqual(heap.contents, ((5, 1), (9, 1)))
        self.assertEqual(heap.run((("insert", 9, 3),)), ())

    def test_ten_thousand_steps_and_one_more(self):
        turn = (("repeat", 2500, (("insert", 3, 2), ("remove", 1), ("insert", 8, 1))),)
        heap = BoundedHeap(capacity=4)
        self.assertEqual(heap.run(turn), ((3, 2500),))
        self.assertEqual(heap.contents, ((3, 3), (8, 1)))
        before = state(heap)
        self.assert_error(LimitExceeded, "count", 10001, heap.run, turn + (("remove", 1),))
        self.assert_error(LimitExceeded, "count", 10001, heap.run, (("remove", 10001),))
        self.assert_error(EmptyHeap, "index", 4, heap.run, (("remove", 10000),))
        self.assert_error(LimitExceeded, "count", 3 * HUGE, heap.run, LOOP)
        self.assertEqual(state(heap), before)

    def test_repeats_without_elementary_steps_take_no_time(self):
        heap = BoundedHeap(((5, 1),), capacity=1)
        self.assertEqual(heap.run(IDLE + (("insert", 4, 1),) + IDLE), ())
        self.assertEqual(heap.contents, ((4, 1),))

    def test_many_numbers(self):
        program = tuple(("insert", number, 19) for number in range(500, 0, -1)) + (("remove", 300),)
        heap = BoundedHeap(tuple((1000 + number, HUGE) for number in range(100)), capacity=100 * HUGE)
        self.assertEqual(heap.run(program), tuple((n, 19) for n in range(1, 16)) + ((16, 15),))
        self.assertEqual(heap.size, 100 * HUGE - 300)

    def test_it_is_a_heap_that_never_reaches_its_capacity(self):
        source = random.Random(8)
        for _ in range(60):
            program = by_hand.random_program(source, (-1, 2, 4), 3, 3)
            heap, plain = BoundedHeap(((2, 2), (3, 4)), capacity=10 ** 6), Heap(((2, 2), (3, 4)))
            try:
                removed = plain.run(program)
            except EmptyHeap as error:
                self.assert_error(EmptyHeap, "index", error.index, heap.run, program)
            else:
                self.assertEqual(heap.run(program), removed)
            self.assertEqual(heap.contents, plain.contents)

    def test_copies_have_the_capacity_and_are_independent(self):
        heap = BoundedHeap(((5, 1),), capacity=2)
        twin = heap.copy()
        self.assertIs(type(twin), BoundedHeap)
        self.assertEqual(state(twin), state(heap))
        twin.resize(7)
        twin.push(1, count=3)
        self.assertEqual((heap.contents, heap.capacity), (((5, 1),), 2))
        heap.push(6, count=3)
        self.assertEqual((twin.contents, twin.capacity), (((1, 3), (5, 1)), 7))

    def test_results_move_along(self):
        program = (("insert", 3, 2), ("repeat", 5, (("insert", 4, 2), ("remove", 1))))
        heap = BoundedHeap(((2, 1), (9, 3)), capacity=5)
        other = BoundedHeap(by_hand.moved(((2, 1), (9, 3)), -7), capacity=5)
        self.assertEqual(other.run(by_hand.moved_program(program, -7)), by_hand.moved(heap.run(program), -7))
        self.assertEqual(other.contents, by_hand.moved(heap.contents, -7))


class Copies(unittest.TestCase):
    def test_copies_of_plain_heaps_are_independent(self):
        heap = Heap(((5, 1),))
        twin = heap.copy()
        self.assertIs(type(twin), Heap)
        twin.push(1)
        self.assertEqual((heap.contents, twin.contents), (((5, 1),), ((1, 1), (5, 1))))
        heap.remove_smallest()
        self.assertEqual((heap.contents, twin.contents), ((), ((1, 1), (5, 1))))


class Equality(unittest.TestCase):
    def compare(self, one, other, equal):
        self.assertIs(one == other, equal)
        self.assertIs(other == one, equal)
        self.assertIs(one != other, not equal)
        self.assertIs(other != one, not equal)

    def test_of_one_class(self):
        self.compare(Heap(((5, 2),)), Heap.of(5, 5), True)
        self.compare(Heap(((5, 2),)), Heap.of(5), False)
        self.compare(Heap(), Heap(), True)
        self.compare(RecordedHeap(((5, 2),)), RecordedHeap.of(5, 5), True)
        self.compare(RecordedHeap(((5, 2),)), RecordedHeap.of(5, 6), False)
        self.compare(BoundedHeap(((5, 2),), capacity=2), BoundedHeap(((5, 2),), capacity=2), True)
        self.compare(BoundedHeap(((5, 2),), capacity=2), BoundedHeap(((5, 2),), capacity=3), False)
        self.compare(BoundedHeap(((5, 2),), capacity=3), BoundedHeap(((5, 1),), capacity=3), False)

    def test_the_record_does_not_count(self):
        heap = RecordedHeap()
        heap.push(5)
        self.compare(heap, RecordedHeap.of(5), True)
        heap.push(5, count=0)
        self.compare(heap, heap.copy(), True)
        heap.undo()
        heap.undo()
        self.compare(heap, RecordedHeap(), True)

    def test_of_different_classes(self):
        for bag in ((), ((5, 2),)):
            plain, recorded, bounded = Heap(bag), RecordedHeap(bag), BoundedHeap(bag, capacity=2)
            self.compare(plain, recorded, False)
            self.compare(plain, bounded, False)
            self.compare(recorded, bounded, False)

    def test_equal_to_nothing_else(self):
        for heap in (Heap(), RecordedHeap(), BoundedHeap(capacity=1)):
            for other in (None, True, 0, (), [], "Heap(())", object(), Heap, Effect.identity(), HOSTILE):
                self.assertIs(heap == other, False)
                self.assertIs(heap != other, True)

    def test_repr(self):
        self.assertEqual(repr(RecordedHeap(((-4, 1), (5, 2)))), "RecordedHeap(((-4, 1), (5, 2)))")
        self.assertEqual(repr(RecordedHeap()), "RecordedHeap(())")
        names = {"Heap": Heap, "RecordedHeap": RecordedHeap, "BoundedHeap": BoundedHeap}
        for heap in (Heap(), Heap.of(5, 4), RecordedHeap.of(5), BoundedHeap(((5, HUGE),), capacity=2 * HUGE)):
            self.assertEqual(eval(repr(heap), names), heap)


class WrongArguments(ErrorCase):
    """[2]: the errors of the arguments, from the left, and nothing changes."""

    def heaps(self):
        return Heap(((5, 1),)), RecordedHeap(((5, 1),)), BoundedHeap(((5, 1),), capacity=2)

    def test_new_heaps(self):
        for wrong in NOT_BAGS:
            self.assert_error(InvalidBag, "value", wrong, Heap, wrong)
            self.assert_error(InvalidBag, "value", wrong, RecordedHeap, bag=wrong)

    def test_insertions(self):
        for heap in self.heaps():
            before = state(heap)
            for wrong in NOT_NUMBERS:
                self.assert_error(InvalidNumber, "value", wrong, heap.push, wrong)
                self.assert_error(InvalidNumber, "value", wrong, heap.push, wrong, count=0)
                self.assert_error(InvalidNumber, "value", wrong, heap.push, count=None, number=wrong)
            for wrong in NOT_COUNTS:
                self.assert_error(InvalidCount, "value", wrong, heap.push, 5, count=wrong)
            self.assertEqual(state(heap), before)

    def test_removals(self):
        for heap in self.heaps():
            before = state(heap)
            for wrong in NOT_COUNTS:
                self.assert_error(InvalidCount, "value", wrong, heap.remove_smallest, count=wrong)
            self.assertEqual(state(heap), before)

    def test_programs(self):
        for heap in self.heaps():
            before = state(heap)
            for wrong, path in NOT_PROGRAMS:
                self.assert_error(InvalidProgram, "path", path, heap.run, wrong)
            self.assert_error(InvalidProgram, "path", (1,), heap.run, (("remove", HUGE), ("insert", 5)))
            self.assert_error(InvalidProgram, "path", (0,) * 8, heap.run, by_hand.nested(9))
            self.assertEqual(state(heap), before)

    def test_the_properties_cannot_be_assigned(self):
        for heap in self.heaps():
            for name in ("contents", "size", "smallest", "record", "capacity"):
                if hasattr(heap, name):
                    with self.assertRaises(AttributeError):
                        setattr(heap, name, ())


if __name__ == "__main__":
    unittest.main()
