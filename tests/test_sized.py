"""Points [2], [3] (g) and (i), [7], [15] and the interface of heapeffects/sized.py."""

import itertools
import random
import unittest

from heapeffects.effects import Effect
from heapeffects.errors import EmptyHeap, InvalidBag, InvalidCount, InvalidEffect, InvalidNumber, InvalidSequence
from heapeffects.sized import SizedEffect
from tests import by_hand
from tests.wrong_values import HOSTILE, NOT_BAGS, NOT_COUNTS, NOT_EFFECTS, NOT_LISTS, NOT_NUMBERS, ErrorCase

HUGE = 10 ** 30
REMOVE = ("remove",)
GREATEST = ("remove_greatest",)

NOT_SIZED_STEPS = (
    None, True, 5, "remove", "insert", b"", [], {}, object(), HOSTILE, (), ("insert",), ("remove", 1), ("insert", 5, 1),
    ("remove_greatest", 1), ("remove_smallest",), ("Remove",), ("",), (b"remove",), (None,), (HOSTILE,), (HOSTILE, 5),
    ["insert", 5], ["remove"], ("remove", None), (("remove",),), ("insert", 5, 5), ("push", 5), ("remove_greatest", 5),
) + tuple(("insert", wrong) for wrong in NOT_NUMBERS)


def insert(number):
    return ("insert", number)


def inserts(*numbers):
    return [insert(number) for number in numbers]


def moved_steps(steps, by):
    return [(step[0], step[1] + by) if step[0] == "insert" else step for step in steps]


def step_lists(values, length):
    return itertools.product([insert(number) for number in values] + [REMOVE, GREATEST], repeat=length)


def random_steps(source, values, many):
    return [source.choice([insert(source.choice(values)), insert(source.choice(values)), REMOVE, GREATEST])
            for _ in range(many)]


def capacities(size):
    """No capacity, the least one there may be, and some that are a bit greater."""
    least = max(size, 1)
    return None, least, least + 1, least + 2


def state(effect):
    """All that can be seen of a sized effect."""
    return (effect.size, effect.capacity, effect.size_after, [effect.level(number) for number in range(-3, 12)],
            [effect.apply(((number, effect.size),)) for number in range(-3, 12) if effect.size])


class SmallSizes(ErrorCase):
    """[3] (g), [15]: sized effects on every small heap, against a run on a sorted list."""

    VALUES = (0, 1, 2, 3, 4)

    def check(self, steps, size, capacity):
        heaps = list(itertools.combinations_with_replacement(self.VALUES, size))
        left = {heap: by_hand.run_sized(heap, steps, capacity) for heap in heaps}
        failing = left[heaps[0]]
        if isinstance(failing, int):
            self.assert_error(EmptyHeap, "index", failing, SizedEffect, list(steps), size=size, capacity=capacity)
            return None
        effect = SizedEffect(list(steps), size=size, capacity=capacity)
        self.assertEqual((effect.size, effect.capacity, effect.size_after), (size, capacity, len(failing)))
        for heap in heaps:
            self.assertEqual(effect.apply(by_hand.bag(heap)), by_hand.bag(left[heap]), (steps, heap, capacity))
        self.check_levels(steps, effect, left)
        return effect

    def check_levels(self, steps, effect, left):
        for number in range(-1, 6):
            shift = sum(step[0] == "insert" and step[1] <= number for step in steps) - list(steps).count(REMOVE)
            counts = {}
            for heap, found in left.items():
                before = sum(each <= number for each in heap)
                counts.setdefault(before, set()).add(sum(each <= number for each in found))
            told = effect.level(number)
            self.assertIs(type(told), tuple)
            self.assertEqual(told[0], shift)
            if 0 in counts:
                self.assertEqual(counts[0], {told[1]})
            if effect.size in counts:
                self.assertEqual(counts[effect.size], {told[2]})
            for before, after in counts.items():
                self.assertEqual(after, {max(told[1], min(told[2], before + shift))})

    def test_all_of_few_steps(self):
        for length in range(4):
            for steps in step_lists((1, 3), length):
                for size in range(4):
                    for capacity in capacities(size):
                        self.check(steps, size, capacity)

    def test_more_steps(self):
        source = random.Random(1)
        found = 0
        for _ in range(400):
            size = source.randint(0, 4)
            steps = random_steps(source, (0, 1, 2, 3), source.randint(4, 9))
            found += self.check(steps, size, source.choice(capacities(size))) is not None
        self.assertGreater(found, 200)

    def test_no_steps(self):
        for size in range(4):
            for capacity in capacities(size):
                self.check((), size, capacity)

    def test_a_capacity_that_is_reached_on_the_way(self):
        self.check(inserts(3, 1, 2), 2, 3)
        self.check(inserts(3, 1, 2) + [REMOVE, insert(4), GREATEST], 2, 3)
        self.check([insert(2)] * 9, 1, 2)
        self.check(inserts(1, 2, 3) + [REMOVE] * 3, 0, 3)
        for index, capacity in ((2, 2), (1, 1)):
            self.assert_error(EmptyHeap, "index", 3 + index, SizedEffect, inserts(1, 2, 3) + [REMOVE] * 3,
                              size=0, capacity=capacity)

    def test_without_removals_of_the_greatest_it_is_the_effect(self):
        source = random.Random(2)
        for _ in range(100):
            program = tuple(("insert", source.choice((0, 1, 3)), 1) if source.random() < 0.5 else ("remove", 1)
                            for _ in range(8))
            effect = Effect.of(program)
            size = effect.needed + source.randint(0, 2)
            sized = SizedEffect([step[:2] if step[0] == "insert" else REMOVE for step in program], size=size)
            for heap in by_hand.heaps((0, 2, 4), size):
                if len(heap) == size:
                    self.assertEqual(sized.apply(by_hand.bag(heap)), effect.apply(by_hand.bag(heap)))


class GreatSizes(ErrorCase):
    def test_a_heap_with_many_numbers(self):
        bag = ((1, HUGE), (3, 2), (5, HUGE))
        size = 2 * HUGE + 2
        effect = SizedEffect([insert(2), GREATEST, REMOVE, insert(9), GREATEST, GREATEST], size=size)
        self.assertEqual(effect.apply(bag), ((1, HUGE - 1), (2, 1), (3, 2), (5, HUGE - 2)))
        self.assertEqual((effect.size, effect.size_after), (size, size - 2))
        self.assertEqual(effect.level(0), (-1, 0, size - 2))
        self.assertEqual(effect.level(2), (0, 0, size - 2))
        self.assertEqual(effect.level(HUGE), (1, 1, size - 2))
        self.assertEqual(effect.apply(((2, size),)), ((2, size - 2),))

    def test_a_full_heap(self):
        bag = ((1, HUGE), (5, HUGE))
        effect = SizedEffect(inserts(3, 9, 3), size=2 * HUGE, capacity=2 * HUGE)
        self.assertEqual(effect.apply(bag), ((1, HUGE), (3, 2), (5, HUGE - 2)))
        self.assertEqual((effect.capacity, effect.size_after), (2 * HUGE, 2 * HUGE))
        effect = SizedEffect(inserts(3, 9, 3), size=2 * HUGE, capacity=2 * HUGE + 1)
        self.assertEqual(effect.apply(bag), ((1, HUGE), (3, 2), (5, HUGE - 1)))

    def test_levels_at_and_between_the_numbers(self):
        effect = SizedEffect([insert(-HUGE), insert(0), insert(HUGE), REMOVE], size=5)
        for number in (-2 * HUGE, -HUGE - 1):
            self.assertEqual(effect.level(number), (-1, 0, 4))
        for number in (-HUGE, 1 - HUGE, -1):
            self.assertEqual(effect.level(number), (0, 0, 5))
        for number in (0, 1, HUGE - 1):
            self.assertEqual(effect.level(number), (1, 1, 6))
        for number in (HUGE, HUGE + 1, 10 ** 99):
            self.assertEqual(effect.level(number), (2, 2, 7))

    def test_sixty_steps(self):
        source = random.Random(3)
        for _ in range(20):
            steps = inserts(*source.choices(range(-30, 30), k=30)) + random_steps(source, range(-30, 30), 30)
            capacity = source.choice((None, 20, 50))
            heap = source.choices(range(-31, 31), k=20)
            effect = SizedEffect(steps, size=20, capacity=capacity)
            self.assertEqual(effect.apply(by_hand.bag(heap)), by_hand.bag(by_hand.run_sized(heap, steps, capacity)))
        self.assertEqual(SizedEffect([REMOVE] * 60, size=HUGE).size_after, HUGE - 60)


class Joined(ErrorCase):
    """SizedEffect.then."""

    def test_two_against_one_of_all_steps(self):
        source = random.Random(4)
        joined = 0
        while joined < 200:
            size = source.randint(0, 3)
            capacity = source.choice(capacities(size))
            first, last = [random_steps(source, (0, 1, 2, 3), source.randint(0, 4)) for _ in range(2)]
            try:
                whole = SizedEffect(first + last, size=size, capacity=capacity)
            except EmptyHeap:
                continue
            joined += 1
            one = SizedEffect(first, size=size, capacity=capacity)
            other = SizedEffect(last, size=one.size_after, capacity=capacity)
            before = state(one), state(other)
            found = one.then(other)
            self.assertIs(type(found), SizedEffect)
            self.assertEqual(found, whole)
            self.assertEqual(state(found), state(whole))
            self.assertEqual((state(one), state(other)), before)
            for heap in itertools.combinations_with_replacement((0, 1, 2, 3, 4), size):
                self.assertEqual(found.apply(by_hand.bag(heap)), other.apply(one.apply(by_hand.bag(heap))))

    def test_more_than_sixty_steps(self):
        source = random.Random(5)
        for capacity in (None, 40, 75):
            parts, size = [], 40
            for _ in range(4):
                steps = inserts(*source.choices(range(20), k=25)) + random_steps(source, range(20), 35)
                parts.append((steps, SizedEffect(steps, size=size, capacity=capacity)))
                size = parts[-1][1].size_after
            whole = parts[0][1]
            for _, effect in parts[1:]:
                whole = whole.then(effect)
            right = parts[0][1].then(parts[1][1].then(parts[2][1].then(parts[3][1])))
            self.assertEqual(whole, right)
            steps = sum([steps for steps, _ in parts], [])
            for _ in range(20):
                heap = source.choices(range(-1, 21), k=40)
                expected = by_hand.bag(by_hand.run_sized(heap, steps, capacity))
                self.assertEqual(whole.apply(by_hand.bag(heap)), expected)
                self.assertEqual(right.apply(by_hand.bag(heap)), expected)

    def test_joined_again_and_again(self):
        effect = SizedEffect([insert(3), insert(7), REMOVE, GREATEST], size=HUGE)
        steps = 1
        for _ in range(99):
            effect = effect.then(effect)
            steps = 2 * steps
        self.assertEqual(effect.level(3), (0, 0, HUGE))
        self.assertEqual(effect.level(2), (-steps, 0, HUGE - steps))
        self.assertEqual(effect.apply(((0, HUGE),)), ((0, HUGE - steps), (3, steps)))
        self.assertEqual(effect.apply(((9, HUGE),)), ((7, steps), (9, HUGE - steps)))

    def test_nothing_joined(self):
        effect = SizedEffect([insert(3), GREATEST, REMOVE], size=4, capacity=9)
        self.assertEqual(effect.then(SizedEffect([], size=3, capacity=9)), effect)
        self.assertEqual(SizedEffect([], size=4, capacity=9).then(effect), effect)

    def test_errors_in_their_order(self):
        effect = SizedEffect([insert(3), GREATEST, REMOVE], size=4)
        bounded = SizedEffect([insert(3), GREATEST, REMOVE], size=4, capacity=9)
        before = state(effect), state(bounded)
        for wrong in NOT_EFFECTS + (Effect.identity(), [insert(3)]):
            self.assert_error(InvalidEffect, "part", "effect", effect.then, wrong)
        for size in (2, 4, HUGE):
            self.assert_error(InvalidEffect, "part", "size", effect.then, SizedEffect([], size=size))
            self.assert_error(InvalidEffect, "part", "size", effect.then, SizedEffect([], size=size, capacity=HUGE))
        self.assert_error(InvalidEffect, "part", "capacity", effect.then, SizedEffect([], size=3, capacity=9))
        self.assert_error(InvalidEffect, "part", "capacity", bounded.then, SizedEffect([], size=3, capacity=8))
        self.assert_error(InvalidEffect, "part", "capacity", bounded.then, SizedEffect([], size=3))
        self.assertEqual((state(effect), state(bounded)), before)


class Equality(ErrorCase):
    """Sized effects are equal if their sizes and capacities are, and all their results."""

    def results(self, steps, size, capacity):
        """The results on all heaps over the numbers and those next to them."""
        return tuple(by_hand.run_sized(heap, steps, capacity)
                     for heap in itertools.combinations_with_replacement((0, 1, 2, 3, 4), size))

    def test_all_pairs_of_few_steps(self):
        for size in range(4):
            for capacity in (None, max(size, 1), size + 2):
                self.compare(size, capacity, [steps for length in range(4) for steps in step_lists((1, 3), length)])

    def compare(self, size, capacity, lists):
        rows = {}
        for steps in lists:
            results = self.results(steps, size, capacity)
            if not isinstance(results[0], int):
                rows.setdefault(results, []).append(SizedEffect(list(steps), size=size, capacity=capacity))
        for effects in rows.values():
            for effect in effects[1:]:
                self.assertTrue(effects[0] == effect and effect == effects[0] and not effects[0] != effect)
        firsts = [effects[0] for effects in rows.values()]
        for at, effect in enumerate(firsts):
            for other in firsts[:at]:
                self.assertTrue(effect != other and other != effect)

    def test_equal_ones_of_different_steps(self):
        for one, other, size in (
                ([insert(5), REMOVE], [insert(5), GREATEST], 0), ([insert(5), GREATEST], [], 0),
                ([insert(2), insert(7)], [insert(7), insert(2)], HUGE), ([REMOVE, GREATEST], [GREATEST, REMOVE], HUGE),
                ([REMOVE] * 3, [GREATEST, REMOVE, GREATEST], 3),
                ([REMOVE] * 2 + [insert(5)] * 2, [GREATEST] * 2 + [insert(5)] * 2, 2),
                ([insert(9), insert(9), REMOVE, REMOVE, REMOVE], [insert(9), REMOVE, REMOVE, insert(9), REMOVE], HUGE)):
            self.assertEqual(SizedEffect(one, size=size), SizedEffect(other, size=size))
        self.assertNotEqual(SizedEffect([insert(5), REMOVE], size=1), SizedEffect([insert(5), GREATEST], size=1))
        self.assertNotEqual(SizedEffect([insert(5), GREATEST], size=1), SizedEffect([], size=1))
        self.assertNotEqual(SizedEffect([insert(5)], size=HUGE), SizedEffect([insert(6)], size=HUGE))

    def test_sizes_and_capacities(self):
        for steps in ([], [insert(5), GREATEST]):
            effects = [SizedEffect(steps, size=size, capacity=capacity)
                       for size, capacity in ((0, None), (0, 2), (0, 3), (1, None), (1, 2), (2, None), (2, 2))]
            for at, effect in enumerate(effects):
                for place, other in enumerate(effects):
                    self.assertIs(effect == other, at == place)
                    self.assertIs(effect != other, at != place)

    def test_other_values(self):
        effect = SizedEffect([], size=0)
        for other in NOT_EFFECTS + (Effect.identity(), [], SizedEffect):
            self.assertFalse(effect == other)
            self.assertTrue(effect != other)


class General(ErrorCase):
    """[2], [3] (i): names of arguments, wrong arguments and their order, moved numbers."""

    def test_arguments_by_name(self):
        effect = SizedEffect(capacity=5, size=2, steps=[insert(4)])
        self.assertEqual((effect.size, effect.capacity, effect.size_after), (2, 5, 3))
        self.assertEqual(effect.apply(bag=((1, 2),)), ((1, 2), (4, 1)))
        self.assertEqual(effect.level(number=4), (1, 1, 3))
        self.assertEqual(effect.then(other=SizedEffect([], size=3, capacity=5)), effect)
        self.assertRaises(TypeError, SizedEffect, [], 2)
        self.assertRaises(TypeError, SizedEffect, [], 2, None)
        self.assertRaises(TypeError, SizedEffect, [])

    def test_wrong_steps(self):
        wrong_values = [(value, None) for value in NOT_LISTS + ((REMOVE,), ("insert", 5), "remove")]
        wrong_values += [([REMOVE] * 61, None), ([None] * 61, None), ([HOSTILE] * 99, None)]
        for wrong in NOT_SIZED_STEPS:
            wrong_values += [([wrong], 0), ([wrong, HOSTILE, REMOVE], 0), ([REMOVE, wrong, wrong], 1),
                             ([insert(5), GREATEST, wrong], 2), ([insert(5)] * 59 + [wrong], 59)]
        for wrong, index in wrong_values:
            self.assert_error(InvalidSequence, "index", index, SizedEffect, wrong, size=99)
            self.assert_error(InvalidSequence, "index", index, SizedEffect, wrong, size=HOSTILE, capacity=HOSTILE)

    def test_wrong_sizes(self):
        for wrong in NOT_COUNTS:
            self.assert_error(InvalidCount, "value", wrong, SizedEffect, [], size=wrong)
            self.assert_error(InvalidCount, "value", wrong, SizedEffect, [REMOVE], size=wrong, capacity=HOSTILE)

    def test_wrong_capacities(self):
        for wrong in NOT_COUNTS + (0,):
            if wrong is not None:
                self.assert_error(InvalidCount, "value", wrong, SizedEffect, [], size=0, capacity=wrong)
                # The capacity comes before the step that fails.
                self.assert_error(InvalidCount, "value", wrong, SizedEffect, [REMOVE], size=0, capacity=wrong)
        for size, capacity in ((2, 1), (HUGE, HUGE - 1), (HUGE, 1), (1, 0)):
            self.assert_error(InvalidCount, "value", capacity, SizedEffect, [], size=size, capacity=capacity)
        self.assertEqual(SizedEffect([], size=0, capacity=1).capacity, 1)
        self.assertEqual(SizedEffect([], size=HUGE, capacity=HUGE).capacity, HUGE)

    def test_empty_heaps(self):
        for steps, size, index in (([REMOVE], 0, 0), ([GREATEST], 0, 0), ([insert(5), REMOVE, GREATEST], 0, 2),
                                   ([REMOVE] * 60, 59, 59), ([GREATEST, REMOVE, REMOVE, REMOVE], 2, 2)):
            self.assert_error(EmptyHeap, "index", index, SizedEffect, steps, size=size)
            self.assert_error(EmptyHeap, "index", index, SizedEffect, steps, size=size, capacity=99)

    def test_wrong_heaps(self):
        effect = SizedEffect([insert(4)], size=2)
        before = state(effect)
        for wrong in NOT_BAGS:
            self.assert_error(InvalidBag, "value", wrong, effect.apply, wrong)
        for size in (0, 1, 3, HUGE):
            self.assert_error(InvalidCount, "value", size, effect.apply, ((5, size),) if size else ())
        self.assert_error(InvalidCount, "value", HUGE + 1, effect.apply, ((5, 1), (6, HUGE)))
        self.assertEqual(state(effect), before)

    def test_wrong_numbers(self):
        effect = SizedEffect([insert(4)], size=2)
        for wrong in NOT_NUMBERS:
            self.assert_error(InvalidNumber, "value", wrong, effect.level, wrong)

    def test_a_list_that_changes_later(self):
        steps = [insert(4), REMOVE]
        effect = SizedEffect(steps, size=2)
        before = state(effect)
        steps[0] = insert(0)
        steps.clear()
        self.assertEqual(state(effect), before)
        self.assertEqual(effect, SizedEffect([insert(4), REMOVE], size=2))

    def test_results_move_along(self):
        source = random.Random(6)
        for _ in range(60):
            steps = inserts(3) + random_steps(source, (0, 1, 2, 3), 6)
            capacity = source.choice((None, 7, 8))
            effect = SizedEffect(steps, size=7, capacity=capacity)
            heap = by_hand.bag(source.choices((-1, 0, 1, 2, 3, 4), k=7))
            for by in (-5, HUGE):
                far = SizedEffect(moved_steps(steps, by), size=7, capacity=capacity)
                self.assertEqual(far.apply(by_hand.moved(heap, by)), by_hand.moved(effect.apply(heap), by))
                self.assertEqual([far.level(number + by) for number in range(-1, 6)],
                                 [effect.level(number) for number in range(-1, 6)])


if __name__ == "__main__":
    unittest.main()
