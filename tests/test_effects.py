"""Points [3], [8], [9], [10] and the interface of heapeffects/effects.py."""

import itertools
import random
import unittest

from heapeffects.bags import size_of, union
from heapeffects.effects import Effect
from heapeffects.errors import (
    EmptyHeap, InvalidBag, InvalidCount, InvalidEffect, InvalidNumber, InvalidProgram,
)
from heapeffects.programs import check_program
from tests import by_hand
from tests.wrong_values import GOOD, HOSTILE, NOT_BAGS, NOT_COUNTS, NOT_NUMBERS, NOT_PROGRAMS, ErrorCase

HUGE = 10 ** 30
BODY = (("insert", 3, 1), ("insert", 7, 1), ("remove", 1))
HEAPS = list(by_hand.heaps((0, 1, 2, 3), 4))


def parts(effect):
    return effect.inserted, effect.removals, effect.survivors


def outcome(effect, heap):
    """What an effect makes of a heap and removes from it, or None if the heap is too small."""
    bag = by_hand.bag(heap)
    try:
        return effect.apply(bag), effect.removed(bag)
    except EmptyHeap:
        return None


class OfPrograms(ErrorCase):
    """[3] (a), [8]: the effect of a program, compared with running it."""

    def compare(self, program, values):
        steps = by_hand.steps_of(program)
        effect = Effect.of(program)
        self.assertEqual(parts(effect), by_hand.triple(steps))
        largest = effect.needed + 2
        for heap in by_hand.heaps(values, min(largest, 5)):
            self.assertEqual(outcome(effect, heap), by_hand.run(heap, steps), (program, heap))
        for size in range(largest):
            self.assertEqual(outcome(effect, [values[0]] * size), by_hand.run([values[0]] * size, steps))

    def test_all_short_sequences(self):
        for length in range(5):
            for steps in by_hand.sequences((1, 2), length):
                self.compare(steps, (0, 1, 2, 3))

    def test_programs_with_loops(self):
        source = random.Random(7)
        for _ in range(120):
            self.compare(by_hand.random_program(source, (-1, 2, 4), 4, 3), (-1, 0, 4, 5))

    def test_loops_of_few_turns(self):
        for length in range(1, 5):
            for steps in by_hand.sequences((1, 2), length):
                for count in range(4):
                    looped = Effect.of((("repeat", count, steps),))
                    self.assertEqual(parts(looped), by_hand.triple(list(steps) * count))

    def test_steps_with_the_count_0(self):
        for program in ((("insert", 5, 0),), (("remove", 0),), (("repeat", 0, BODY),), (("repeat", HUGE, ()),),
                        (("repeat", HUGE, (("insert", 5, 0), ("remove", 0))),)):
            self.assertEqual(Effect.of(program), Effect.identity())

    def test_many_flat_steps(self):
        source = random.Random(9)
        steps = [("insert", source.randint(-50, 50), 1) if source.random() < 0.6 else ("remove", 1)
                 for _ in range(500)]
        self.assertEqual(parts(Effect.of(tuple(steps))), by_hand.triple(steps))
        program = tuple(("insert", 250 - number, 1) for number in range(500))
        self.assertEqual(parts(Effect.of(program)), by_hand.triple(program))

    def test_equal_effects_act_alike_and_others_do_not(self):
        rows = {}
        heaps = list(by_hand.heaps((0, 1, 2, 3), 4))
        for length in range(4):
            for steps in by_hand.sequences((1, 2), length):
                acts = tuple(by_hand.run(heap, steps) for heap in heaps)
                rows.setdefault(acts, []).append(Effect.of(steps))
        firsts = [effects[0] for effects in rows.values()]
        for effects in rows.values():
            self.assertTrue(all(effect == effects[0] for effect in effects))
        self.assertTrue(all(first != other for first, other in itertools.combinations(firsts, 2)))

    def test_wrong_programs(self):
        for program, path in NOT_PROGRAMS:
            self.assert_error(InvalidProgram, "path", path, Effect.of, program)
        self.assert_error(InvalidProgram, "path", (0,) * 8, Effect.of, by_hand.nested(9))


class LongLoops(unittest.TestCase):
    """[1], [10]: loops that run 10 ** 30 times and more."""

    def test_the_survivors_of_a_long_loop(self):
        effect = Effect.of((("repeat", HUGE, BODY),))
        self.assertEqual(parts(effect), (((3, HUGE), (7, HUGE)), HUGE, ((7, HUGE),)))
        self.assertEqual((effect.consumed, effect.needed), (((3, HUGE),), 0))

    def test_removals_before_insertions(self):
        effect = Effect.of((("repeat", HUGE, (("remove", 2), ("insert", 9, 1))),))
        self.assertEqual(parts(effect), (((9, HUGE),), 2 * HUGE, ((9, 1),)))
        self.assertEqual(effect.needed, HUGE + 1)

    def test_as_many_removals_as_insertions(self):
        program = (("repeat", HUGE, (("insert", 1, 1), ("insert", 9, 2), ("remove", 3), ("insert", 4, 1), ("insert", 5, 1))),)
        effect = Effect.of(program)
        self.assertEqual(effect.survivors, ((4, 1), (5, 1), (9, 2 * HUGE - 2)))

    def test_a_loop_is_its_turns_one_after_another(self):
        source = random.Random(3)
        for _ in range(60):
            body = by_hand.random_program(source, (1, 2, 3), 4, 2)
            whole = Effect.of((("repeat", HUGE ** 2, body),))
            self.assertEqual(Effect.of((("repeat", HUGE, (("repeat", HUGE, body),)),)), whole)
            self.assertEqual(Effect.of((("repeat", HUGE ** 2 - 2, body),) + body + body), whole)
            self.assertEqual(Effect.of(body + (("repeat", HUGE ** 2 - 1, body),)), whole)

    def test_eight_deep(self):
        program = by_hand.nested(8, BODY, 10 ** 99)
        turns = 10 ** 693
        self.assertEqual(parts(Effect.of(program)), (((3, turns), (7, turns)), turns, ((7, turns),)))

    def test_wide_and_deep(self):
        inner = tuple(("insert", number, 10 ** 99) for number in range(480)) + (("remove", 10 ** 99),)
        effect = Effect.of(by_hand.nested(8, inner, 10 ** 99))
        self.assertEqual(effect.survivors, tuple((number, 10 ** 792) for number in range(1, 480)))

    def test_many_long_loops(self):
        program = tuple(("repeat", HUGE, (("insert", number, 1),)) for number in range(240)) + (("remove", HUGE),)
        self.assertEqual(Effect.of(program).survivors, tuple((number, HUGE) for number in range(1, 240)))

    def test_a_great_effect_on_a_great_heap(self):
        effect = Effect.of((("repeat", HUGE, (("remove", 2), ("insert", 9, 1))),))
        heap = ((5, HUGE), (20, 1))
        self.assertEqual(effect.apply(heap), ((9, 1),))
        self.assertEqual(effect.removed(heap), ((5, HUGE), (9, HUGE - 1), (20, 1)))
        self.assertEqual(effect.apply(((5, HUGE), (20, 3))), ((9, 1), (20, 2)))


class Construction(ErrorCase):
    """[9]: which triples make an effect."""

    def test_parts(self):
        effect = Effect(((3, 1), (7, 2)), 4, ((7, 1),))
        self.assertEqual(parts(effect), (((3, 1), (7, 2)), 4, ((7, 1),)))
        self.assertEqual((effect.consumed, effect.needed), (((3, 1), (7, 1)), 2))
        self.assertEqual(Effect(survivors=((7, 1),), removals=4, inserted=((3, 1), (7, 2))), effect)

    def test_names_of_the_parts(self):
        self.assertEqual(Effect.PARTS, ("inserted", "removals", "survivors"))

    def test_removals_just_enough_and_one_too_few(self):
        self.assertEqual(Effect(((3, HUGE), (7, 1)), HUGE, ((7, 1),)).needed, 0)
        self.assert_error(InvalidEffect, "part", "removals", Effect, ((3, HUGE), (7, 1)), HUGE - 1, ((7, 1),))
        self.assertIs(Effect.is_valid(((3, HUGE), (7, 1)), HUGE, ((7, 1),)), True)
        self.assertIs(Effect.is_valid(((3, HUGE), (7, 1)), HUGE - 1, ((7, 1),)), False)

    def test_survivors_that_were_not_inserted(self):
        for survivors in (((3, 2),), ((4, 1),), ((3, 1), (7, 1), (9, 1))):
            for removals in (0, 9):
                self.assert_error(InvalidEffect, "part", "survivors", Effect, ((3, 1), (7, 1)), removals, survivors)
                self.assertIs(Effect.is_valid(((3, 1), (7, 1)), removals, survivors), False)

    def test_exactly_the_effects_of_sequences_are_valid(self):
        found = set()
        for length in range(6):
            found.update(by_hand.triple(steps) for steps in by_hand.sequences((1, 2), length))
        bags = list(by_hand.bags((1, 2), 5))
        for inserted, removals in itertools.product(bags, range(6)):
            if size_of(inserted) + removals > 5:
                continue
            for survivors in by_hand.bags((1, 2, 3), 5):
                triple = (inserted, removals, survivors)
                self.assertIs(Effect.is_valid(*triple), triple in found)
                if triple in found:
                    self.assertEqual(parts(Effect(*triple)), triple)
                else:
                    self.assertRaises(InvalidEffect, Effect, *triple)

    def test_is_valid_for_any_values(self):
        for wrong in NOT_BAGS:
            self.assertIs(Effect.is_valid(wrong, 1, ()), False)
            self.assertIs(Effect.is_valid(((5, 1),), 1, wrong), False)
            self.assertIs(Effect.is_valid(wrong, wrong, wrong), False)
        for wrong in NOT_COUNTS:
            self.assertIs(Effect.is_valid((), wrong, ()), False)
        self.assertIs(Effect.is_valid(survivors=(), removals=0, inserted=()), True)

    def test_wrong_arguments_from_the_left(self):
        for wrong in NOT_BAGS:
            self.assert_error(InvalidBag, "value", wrong, Effect, wrong, 1, ())
            self.assert_error(InvalidBag, "value", wrong, Effect, wrong, -1, None)
            self.assert_error(InvalidBag, "value", wrong, Effect, (), 1, wrong)
            self.assert_error(InvalidBag, "value", wrong, Effect, ((5, 1),), 0, wrong)
        for wrong in NOT_COUNTS:
            self.assert_error(InvalidCount, "value", wrong, Effect, (), wrong, ())
            self.assert_error(InvalidCount, "value", wrong, Effect, (), wrong, None)
            self.assert_error(InvalidCount, "value", wrong, Effect, (), wrong, ((5, 1),))


class Identity(unittest.TestCase):
    def test_it_is_the_effect_of_the_empty_program(self):
        identity = Effect.identity()
        self.assertEqual(parts(identity), ((), 0, ()))
        self.assertEqual((identity.consumed, identity.needed, identity.normal()), ((), 0, ()))
        self.assertEqual(identity, Effect.of(()))
        self.assertEqual(identity, Effect((), 0, ()))

    def test_it_changes_nothing(self):
        for heap in HEAPS:
            self.assertEqual(outcome(Effect.identity(), heap), (by_hand.bag(heap), ()))


class Heaps(ErrorCase):
    """[7], [8]: an effect on a heap."""

    def test_just_enough_and_one_less(self):
        effect = Effect(((5, 2),), 4, ((5, 1),))
        self.assertEqual(effect.needed, 3)
        self.assertEqual((effect.apply(((1, 3),)), effect.removed(((1, 3),))), (((5, 1),), ((1, 3), (5, 1))))
        self.assert_error(EmptyHeap, "index", None, effect.apply, ((1, 2),))
        self.assert_error(EmptyHeap, "index", None, effect.removed, ((1, 2),))

    def test_great_effects(self):
        effect = Effect((), HUGE, ())
        self.assertEqual(effect.apply(((1, HUGE),)), ())
        self.assertEqual(effect.removed(((1, HUGE - 1), (2, 5))), ((1, HUGE - 1), (2, 1)))
        self.assert_error(EmptyHeap, "index", None, effect.apply, ((1, HUGE - 1),))
        self.assert_error(EmptyHeap, "index", None, effect.removed, ((1, HUGE - 1),))

    def test_the_empty_heap(self):
        self.assertEqual(Effect.of((GOOD, ("remove", 1))).apply(()), ())
        self.assertEqual(Effect.of((GOOD, ("remove", 1))).removed(()), ((5, 1),))
        self.assert_error(EmptyHeap, "index", None, Effect.of((("remove", 1), GOOD)).removed, ())

    def test_wrong_bags(self):
        effect = Effect((), 5, ())
        for wrong in NOT_BAGS:
            self.assert_error(InvalidBag, "value", wrong, effect.apply, wrong)
            self.assert_error(InvalidBag, "value", wrong, effect.removed, wrong)

    def test_arguments_by_name(self):
        effect = Effect.of(program=(GOOD, ("remove", 1)))
        self.assertEqual(effect.apply(bag=((3, 1),)), ((5, 1),))
        self.assertEqual(effect.removed(bag=((3, 1),)), ((3, 1),))

    def test_nothing_has_changed_after_an_error(self):
        effect = Effect(((5, 2),), 4, ((5, 1),))
        before = (parts(effect), effect.consumed, effect.needed, repr(effect))
        for call, wrong in ((effect.apply, ()), (effect.removed, ()), (effect.apply, None), (effect.moved, None)):
            with self.assertRaises((EmptyHeap, InvalidBag, InvalidNumber)):
                call(wrong)
        self.assertEqual((parts(effect), effect.consumed, effect.needed, repr(effect)), before)
        self.assertEqual(effect.apply(((1, 3),)), ((5, 1),))

    def test_nothing_has_changed_after_an_answer(self):
        effect = Effect(((5, 2),), 4, ((5, 1),))
        heap = ((1, 3), (9, 1))
        self.assertEqual([effect.apply(heap), effect.apply(heap)], [((5, 1), (9, 1))] * 2)
        self.assertEqual([effect.removed(heap), effect.removed(heap)], [((1, 3), (5, 1))] * 2)
        effect.moved(3)
        self.assertEqual(parts(effect), (((5, 2),), 4, ((5, 1),)))

    def test_the_parts_cannot_be_assigned(self):
        effect = Effect.identity()
        for name in ("inserted", "removals", "survivors", "consumed", "needed"):
            with self.assertRaises(AttributeError):
                setattr(effect, name, ())


class Normal(unittest.TestCase):
    """[3] (b), [9]: the normal program."""

    def test_every_effect_is_that_of_its_normal_program(self):
        some = list(by_hand.bags((1, 2, 3), 4))
        for inserted, removals, survivors in itertools.product(some, range(5), some):
            if Effect.is_valid(inserted, removals, survivors):
                effect = Effect(inserted, removals, survivors)
                normal = effect.normal()
                self.assertIsNone(check_program(normal))
                self.assertEqual(Effect.of(normal), effect)
                self.assertEqual(by_hand.triple(by_hand.steps_of(normal)), (inserted, removals, survivors))

    def test_its_form(self):
        effect = Effect(((1, 2), (3, HUGE), (7, 2)), HUGE + 5, ((1, 1), (7, 2)))
        self.assertEqual(effect.normal(), (("insert", 1, 1), ("insert", 3, HUGE), ("remove", HUGE + 5),
                                           ("insert", 1, 1), ("insert", 7, 2)))

    def test_steps_with_the_count_0_are_left_out(self):
        self.assertEqual(Effect((), 0, ()).normal(), ())
        self.assertEqual(Effect((), 3, ()).normal(), (("remove", 3),))
        self.assertEqual(Effect(((5, 2),), 0, ((5, 2),)).normal(), (("insert", 5, 2),))
        self.assertEqual(Effect(((5, 2),), 2, ()).normal(), (("insert", 5, 2), ("remove", 2)))
        self.assertEqual(Effect(((5, 2),), 1, ((5, 2),)).normal(), (("remove", 1), ("insert", 5, 2)))


class Moved(ErrorCase):
    """[3] (i): moving all numbers by the same amount."""

    def test_parts(self):
        effect = Effect(((3, 1), (7, 2)), 4, ((7, 1),))
        self.assertEqual(parts(effect.moved(-10)), (((-7, 1), (-3, 2)), 4, ((-3, 1),)))
        self.assertEqual(parts(effect.moved(number=HUGE)), (((3 + HUGE, 1), (7 + HUGE, 2)), 4, ((7 + HUGE, 1),)))
        self.assertEqual((effect.moved(0), effect.moved(9).moved(-9)), (effect, effect))
        self.assertEqual(Effect.identity().moved(5), Effect.identity())
        self.assertIs(type(effect.moved(1)), Effect)

    def test_it_is_the_effect_of_the_moved_program(self):
        def moved(program):
            steps = {"insert": lambda step: ("insert", step[1] + 4, step[2]), "remove": lambda step: step,
                     "repeat": lambda step: ("repeat", step[1], moved(step[2]))}
            return tuple(steps[step[0]](step) for step in program)
        source = random.Random(11)
        for _ in range(60):
            program = by_hand.random_program(source, (-1, 2, 4), 4, 3)
            self.assertEqual(Effect.of(moved(program)), Effect.of(program).moved(4))

    def test_results_move_along(self):
        for steps in by_hand.sequences((1, 2), 3):
            effect = Effect.of(steps)
            for heap in HEAPS:
                result = outcome(effect, heap)
                if result is not None:
                    result = tuple(tuple((number - 3, count) for number, count in bag) for bag in result)
                self.assertEqual(outcome(effect.moved(-3), [number - 3 for number in heap]), result)

    def test_wrong_numbers(self):
        for wrong in NOT_NUMBERS:
            self.assert_error(InvalidNumber, "value", wrong, Effect.identity().moved, wrong)


class Equality(unittest.TestCase):
    def test_equal_if_the_three_parts_are(self):
        effect = Effect(((3, 1), (7, 2)), 4, ((7, 1),))
        self.assertTrue(effect == Effect(((3, 1), (7, 2)), 4, ((7, 1),)))
        self.assertFalse(effect != Effect(((3, 1), (7, 2)), 4, ((7, 1),)))
        for other in (Effect(((3, 1), (7, 3)), 4, ((7, 1),)), Effect(((3, 1), (7, 2)), 5, ((7, 1),)),
                      Effect(((3, 1), (7, 2)), 4, ((3, 1),)), Effect(((3, 1), (8, 2)), 4, ((8, 1),))):
            self.assertFalse(effect == other)
            self.assertTrue(effect != other)

    def test_equal_to_nothing_else(self):
        effect = Effect.identity()
        for other in (None, True, 0, (), ((), 0, ()), [], "Effect((), 0, ())", object(), Effect, HOSTILE):
            self.assertIs(effect == other, False)
            self.assertIs(effect != other, True)

    def test_repr(self):
        self.assertEqual(repr(Effect(((-3, 1), (7, 2)), 4, ((7, 1),))), "Effect(((-3, 1), (7, 2)), 4, ((7, 1),))")
        self.assertEqual(repr(Effect.identity()), "Effect((), 0, ())")
        effect = Effect.of((("repeat", HUGE, BODY),))
        self.assertEqual(eval(repr(effect), {"Effect": Effect}), effect)

    def test_results_and_removed_numbers_are_all_there_is(self):
        for steps in by_hand.sequences((1, 2), 4):
            effect = Effect.of(steps)
            for heap in ((0, 1, 2, 3), (1, 1, 1, 3)):
                result, removed = outcome(effect, heap)
                self.assertEqual(union(result, removed), union(by_hand.bag(heap), effect.inserted))


if __name__ == "__main__":
    unittest.main()
