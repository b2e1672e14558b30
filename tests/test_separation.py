"""Points [2], [3] (a) and (i) and the interface of heapeffects/separation.py."""

import itertools
import random
import unittest

from heapeffects.algebra import compose, power
from heapeffects.bags import is_bag, size_of
from heapeffects.effects import Effect
from heapeffects.errors import EmptyHeap, InvalidBag, InvalidCount, InvalidEffect, InvalidNumber
from heapeffects.separation import identify, separating_heap
from tests import by_hand
from tests.wrong_values import HOSTILE, NOT_BAGS, NOT_COUNTS, NOT_EFFECTS, NOT_NUMBERS, ErrorCase

HUGE = 10 ** 30
GROWING = Effect.of((("insert", 3, 1), ("insert", 7, 1), ("remove", 1)))
SHRINKING = Effect.of((("remove", 2), ("insert", 9, 1)))
IDENTITY = Effect.identity()


def parts(effect):
    return effect.inserted, effect.removals, effect.survivors


def result(effect, heap):
    """What an effect makes of a heap, or None if the heap is too small."""
    try:
        return effect.apply(heap)
    except EmptyHeap:
        return None


def differ(first, second, heap):
    return result(first, heap) != result(second, heap)


class SmallEffects(unittest.TestCase):
    """Effects on all heaps of the numbers and those next to them, run on sorted lists."""

    def compare(self, triples, values, largest):
        heaps = list(by_hand.heaps(values, largest))
        sizes = [len(heap) for heap in heaps]
        rows = []
        for triple in triples:
            steps = by_hand.normal(triple)
            results = [by_hand.run(heap, steps) for heap in heaps]
            rows.append((Effect(*triple), [None if each is None else each[0] for each in results]))
        for (first, one), (second, other) in itertools.product(rows, repeat=2):
            found = separating_heap(first, second)
            if first == second:
                self.assertIsNone(found)
                continue
            self.assertTrue(is_bag(found))
            least = min([size for size, a, b in zip(sizes, one, other) if a != b])
            self.assertEqual(size_of(found), least, (first, second))
            outcomes = [by_hand.run(by_hand.numbers(found), by_hand.normal(parts(each))) for each in (first, second)]
            self.assertNotEqual(*[None if each is None else each[0] for each in outcomes])

    def test_two_numbers_side_by_side(self):
        self.compare(list(by_hand.triples((1, 2), 3, 3)), (0, 1, 2, 3), 4)

    def test_two_numbers_with_others_between(self):
        self.compare(list(by_hand.triples((1, 4), 2, 3)), (0, 1, 2, 3, 4, 5), 4)

    def test_three_numbers(self):
        self.compare(list(by_hand.triples((1, 2, 3), 2, 2)), (0, 1, 2, 3, 4), 3)


class SeparatingHeaps(unittest.TestCase):
    def check(self, first, second, size):
        """The returned heap separates the effects and has this size."""
        for one, other in ((first, second), (second, first)):
            heap = separating_heap(one, other)
            self.assertTrue(is_bag(heap))
            self.assertEqual(size_of(heap), size)
            self.assertTrue(differ(one, other, heap))
            self.check_smaller(one, other, heap)

    def check_smaller(self, first, second, heap):
        """No heap with one element less separates them, as far as samples tell."""
        size = size_of(heap) - 1
        if size < 0:
            return
        numbers = sorted({number + by for number, _ in first.inserted + second.inserted for by in (-1, 0, 1)}) or [0]
        for low, high in itertools.combinations_with_replacement(sorted(set(numbers[:8] + numbers[-8:])), 2):
            for count in sorted({0, min(1, size), min(2, size), size // 3, size // 2, max(size - 1, 0), size}):
                if low == high:
                    sample = ((low, size),)
                else:
                    sample = ((low, count), (high, size - count))
                sample = tuple(entry for entry in sample if entry[1] > 0)
                self.assertFalse(differ(first, second, sample))

    def test_equal_effects(self):
        for effect in (IDENTITY, GROWING, SHRINKING, power(SHRINKING, HUGE)):
            self.assertIsNone(separating_heap(effect, effect))
            self.assertIsNone(separating_heap(effect, Effect(*parts(effect))))
        once = (("insert", 5, 1), ("remove", 1), ("insert", 5, 1))
        twice = (("insert", 5, 2), ("remove", 1))
        self.assertIsNone(separating_heap(Effect.of(once), Effect.of(twice)))

    def test_different_needs(self):
        self.check(Effect((), HUGE, ()), Effect((), HUGE + 1, ()), HUGE)
        self.check(Effect((), HUGE, ()), IDENTITY, 0)
        self.check(Effect(((5, HUGE),), 3 * HUGE, ()), Effect(((6, 1),), 2 * HUGE, ()), 2 * HUGE - 1)

    def test_different_survivors(self):
        self.check(Effect(((5, 1),), HUGE, ((5, 1),)), Effect(((6, 1),), HUGE, ((6, 1),)), HUGE)
        self.check(Effect(((5, 1),), 0, ((5, 1),)), Effect(((6, 1),), 0, ((6, 1),)), 0)
        self.check(Effect(((5, HUGE), (6, 1)), 1, ((5, HUGE - 1), (6, 1))), Effect(((5, HUGE), (6, 1)), 1, ((5, HUGE),)), 0)

    def test_different_shifts(self):
        # Both leave nothing on the empty heap; a smaller element shows how many are removed.
        self.check(Effect(((5, HUGE),), HUGE, ()), Effect(((5, HUGE + 1),), HUGE + 1, ()), HUGE + 1)
        self.check(Effect(((5, 1),), 1, ()), Effect(((6, 1),), 1, ()), 1)
        self.check(Effect(((5, HUGE),), HUGE, ()), Effect(((6, HUGE),), HUGE, ()), 1)
        # Survivors hide the difference until the elements are more than they.
        survivors = ((1, HUGE), (9, 2))
        self.check(Effect(((1, 2 * HUGE), (5, 7), (9, 2)), HUGE + 7, survivors),
                   Effect(((1, 2 * HUGE), (6, 7), (9, 2)), HUGE + 7, survivors), 1)
        self.check(Effect(((1, HUGE), (5, 7), (9, 2)), HUGE + 7, ((1, HUGE), (9, 2))),
                   Effect(((1, HUGE), (6, 7), (9, 2)), HUGE + 7, ((1, HUGE), (9, 2))), HUGE + 1)

    def test_random_effects_with_great_counts(self):
        source = random.Random(1)
        for _ in range(150):
            programs = [by_hand.random_program(source, (1, 2, 5), 4, 2) for _ in range(2)]
            first, second = [Effect.of((("repeat", source.choice((1, HUGE)), program),)) for program in programs]
            if first != second:
                self.check(first, second, size_of(separating_heap(first, second)))

    def test_one_part_moved_a_little(self):
        for turns in (1, 2, HUGE):
            for effect in (power(GROWING, turns), power(SHRINKING, turns), compose(power(SHRINKING, turns), GROWING)):
                others = [compose(effect, Effect(((9, 1),), 1, ())), compose(Effect(((3, 1),), 1, ()), effect),
                          effect.moved(1), compose(effect, Effect((), 1, ()))]
                for other in others:
                    if other != effect:
                        self.check(effect, other, size_of(separating_heap(effect, other)))

    def test_many_entries(self):
        inserted = tuple((number, 10 ** 99) for number in range(100))
        consumed = Effect(inserted, 10 ** 101, ())
        other = Effect(inserted[:-1] + ((100, 10 ** 99),), 10 ** 101, ())
        self.check(consumed, other, 1)
        self.check(consumed, consumed.moved(1), 1)

    def test_random_bags_below_the_size_do_not_separate(self):
        source = random.Random(2)
        triples = list(by_hand.triples((1, 2, 3), 4, 5))
        for _ in range(400):
            first, second = [Effect(*source.choice(triples)) for _ in range(2)]
            heap = separating_heap(first, second)
            if heap is None:
                self.assertEqual(first, second)
                continue
            self.assertTrue(differ(first, second, heap))
            for _ in range(20):
                size = source.randint(0, size_of(heap))
                if size < size_of(heap):
                    sample = by_hand.bag([source.randint(0, 4) for _ in range(size)])
                    self.assertFalse(differ(first, second, sample))


class Identifying(unittest.TestCase):
    def results(self, effect, low, high, size):
        return [effect.apply(((number, size),) if size else ()) for number in (low - 1, high + 1)]

    def test_small_effects(self):
        for triple in by_hand.triples((1, 2, 3), 3, 3):
            effect = Effect(*triple)
            for low, high in ((1, 3), (0, 3), (-5, 9)):
                for size in range(triple[1], 6):
                    found = identify(low, high, size, *self.results(effect, low, high, size))
                    self.assertEqual(None if found is None else parts(found), triple)

    def test_all_pairs_of_results(self):
        """Each pair of bags is explained by the effect that is found by trying all, or by none."""
        for size in range(3):
            known = {}
            for triple in by_hand.triples((1, 2), 3, size):
                pair = tuple(by_hand.run([number] * size, by_hand.normal(triple))[0] for number in (0, 3))
                self.assertNotIn(pair, known)
                known[pair] = triple
            bags = list(by_hand.bags((-1, 0, 1, 2, 3, 4), 3))
            for pair in itertools.product(bags, repeat=2):
                found = identify(1, 2, size, *pair)
                self.assertEqual(None if found is None else parts(found), known.get(pair), (size, pair))

    def test_great_effects(self):
        for effect in (power(GROWING, HUGE), power(SHRINKING, HUGE), compose(power(GROWING, HUGE), power(SHRINKING, HUGE))):
            for size in (effect.removals, effect.removals + 1, HUGE ** 2):
                low_result, high_result = self.results(effect, 3, 9, size)
                self.assertEqual(identify(3, 9, size, low_result, high_result), effect)
                self.assertEqual(identify(-HUGE, HUGE, size, *self.results(effect, -HUGE, HUGE, size)), effect)
                other = Effect(effect.inserted, effect.removals + 1, effect.survivors)
                self.assertEqual(identify(3, 9, size + 1, low_result, high_result), other)

    def test_changed_results(self):
        effect = Effect(((3, HUGE), (7, 2)), HUGE + 1, ((7, 1),))
        low_result, high_result = self.results(effect, 3, 7, 2 * HUGE)
        self.assertEqual((low_result, high_result),
                         (((2, HUGE - 1), (3, HUGE), (7, 2)), ((7, 1), (8, 2 * HUGE))))
        self.assertEqual(identify(3, 7, 2 * HUGE, low_result, high_result), effect)
        for wrong in (((2, HUGE), (3, HUGE), (7, 2)), ((2, HUGE - 1), (3, HUGE + 1), (7, 2)), ((2, HUGE - 1), (3, HUGE)),
                      ((1, 1), (2, HUGE - 1), (3, HUGE), (7, 2)), ((2, HUGE - 1), (3, HUGE), (7, 2), (8, 1)), (),
                      ((1, HUGE - 1), (3, HUGE), (7, 2)), ((2, 3 * HUGE), (3, HUGE), (7, 2))):
            self.assertIsNone(identify(3, 7, 2 * HUGE, wrong, high_result))
        for wrong in (((7, 1), (8, 2 * HUGE - 1)), ((7, 2), (8, 2 * HUGE)), ((8, 2 * HUGE),), ((7, 1),), (),
                      ((7, 1), (9, 2 * HUGE)), ((2, 1), (7, 1), (8, 2 * HUGE)), ((7, 1), (8, 2 * HUGE), (9, 1)),
                      ((5, 1), (8, 2 * HUGE)), ((7, 3), (8, 2 * HUGE - 2))):
            self.assertIsNone(identify(3, 7, 2 * HUGE, low_result, wrong))
        # Another effect has this result.
        other = identify(3, 7, 2 * HUGE, low_result, ((3, 1), (8, 2 * HUGE)))
        self.assertEqual(parts(other), (((3, HUGE), (7, 2)), HUGE + 1, ((3, 1),)))

    def test_the_empty_heap(self):
        self.assertEqual(identify(5, 5, 0, (), ()), IDENTITY)
        self.assertEqual(parts(identify(5, 5, 0, ((5, 2),), ((5, 2),))), (((5, 2),), 0, ((5, 2),)))
        self.assertIsNone(identify(5, 5, 0, ((5, 2),), ((5, 1),)))
        self.assertIsNone(identify(5, 5, 0, ((4, 1),), ()))
        self.assertIsNone(identify(5, 5, 0, (), ((6, 1),)))

    def test_many_entries(self):
        inserted = tuple((number, 10 ** 99) for number in range(98))
        effect = Effect(inserted, 10 ** 99 * 90, inserted[50:])
        self.assertEqual(identify(0, 97, HUGE ** 4, *self.results(effect, 0, 97, HUGE ** 4)), effect)

    def test_results_move_along(self):
        effect = Effect(((3, 5), (7, 2)), 6, ((7, 1),))
        pair = [tuple((number - 50, count) for number, count in bag) for bag in self.results(effect, 3, 7, 10)]
        self.assertEqual(identify(-47, -43, 10, *pair), effect.moved(-50))


class General(ErrorCase):
    """[2]: names of arguments, wrong arguments, and nothing changes."""

    def test_arguments_by_name(self):
        heap = separating_heap(second=SHRINKING, first=Effect((), 9, ()))
        self.assertEqual(size_of(heap), 2)
        found = identify(high_result=((6, 1),), low_result=((5, 1),), size=1, high=5, low=5)
        self.assertEqual(parts(found), (((5, 1),), 1, ()))

    def test_wrong_effects(self):
        for wrong in NOT_EFFECTS:
            self.assert_error(InvalidEffect, "part", "effect", separating_heap, wrong, GROWING)
            self.assert_error(InvalidEffect, "part", "effect", separating_heap, GROWING, wrong)
            self.assert_error(InvalidEffect, "part", "effect", separating_heap, wrong, wrong)
            self.assert_error(InvalidEffect, "part", "effect", separating_heap, wrong, HOSTILE)

    def test_wrong_arguments_of_identify(self):
        for wrong in NOT_NUMBERS:
            self.assert_error(InvalidNumber, "value", wrong, identify, wrong, 5, 1, (), ())
            self.assert_error(InvalidNumber, "value", wrong, identify, wrong, None, -1, None, None)
            self.assert_error(InvalidNumber, "value", wrong, identify, 5, wrong, 1, (), ())
            self.assert_error(InvalidNumber, "value", wrong, identify, 5, wrong, -1, None, None)
        for wrong in NOT_COUNTS:
            self.assert_error(InvalidCount, "value", wrong, identify, 5, 5, wrong, (), ())
            # low is greater than high, but this error comes after that of size.
            self.assert_error(InvalidCount, "value", wrong, identify, 6, 5, wrong, None, None)
        for wrong in NOT_BAGS:
            self.assert_error(InvalidNumber, "value", 5, identify, 6, 5, 1, wrong, wrong)
            self.assert_error(InvalidBag, "value", wrong, identify, 5, 5, 1, wrong, ())
            self.assert_error(InvalidBag, "value", wrong, identify, 5, 5, 1, wrong, None)
            self.assert_error(InvalidBag, "value", wrong, identify, 5, 5, 1, (), wrong)
        self.assert_error(InvalidNumber, "value", -HUGE - 1, identify, -HUGE, -HUGE - 1, 1, (), ())
        self.assertEqual(identify(5, 5, 1, (), ()), Effect((), 1, ()))

    def test_nothing_has_changed(self):
        before = parts(GROWING), parts(SHRINKING)
        self.assertEqual(separating_heap(GROWING, SHRINKING), separating_heap(GROWING, SHRINKING))
        self.assertRaises(InvalidEffect, separating_heap, GROWING, None)
        self.assertEqual((parts(GROWING), parts(SHRINKING)), before)


if __name__ == "__main__":
    unittest.main()
