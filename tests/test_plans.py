"""Points [2], [3] (f) and (i), [4], [7], [8] and the interface of heapeffects/plans.py."""

import random
import unittest

from heapeffects.algebra import power
from heapeffects.bags import contains, size_of
from heapeffects.effects import Effect
from heapeffects.errors import InvalidBag, InvalidEffect
from heapeffects.heaps import Heap
from heapeffects.plans import distance, plan, preimage
from heapeffects.programs import step_count
from tests import by_hand
from tests.wrong_values import HOSTILE, NOT_BAGS, NOT_EFFECTS, ErrorCase

HUGE = 10 ** 30
HEAPS = list(by_hand.heaps((1, 2, 3), 4))


def distances(start, values, largest):
    """How many steps every heap of some numbers is away from the start, by a search through all heaps."""
    found = {start: 0}
    rest = [start]
    while rest:
        reached = []
        for heap in rest:
            choices = [tuple(sorted(heap + (number,))) for number in values if len(heap) < largest]
            for following in choices + [heap[1:]] * bool(heap):
                if following not in found:
                    found[following] = found[heap] + 1
                    reached.append(following)
        rest = reached
    return found


def reached(start, stock):
    """All heaps that are reached from the start with these numbers to insert, by a search."""
    found = {(start, stock)}
    rest = [(start, stock)]
    while rest:
        heap, left = rest.pop()
        choices = [(heap[1:], left)] * bool(heap)
        for index, number in enumerate(left):
            choices.append((tuple(sorted(heap + (number,))), left[:index] + left[index + 1:]))
        for following in choices:
            if following not in found:
                found.add(following)
                rest.append(following)
    return {heap for heap, _ in found}


def shape_of(program):
    """What a program inserts and how often it removes, if it has the form of a plan."""
    removals = 0
    if program and program[0][0] == "remove":
        removals = program[0][1]
        assert removals > 0
        program = program[1:]
    assert all(step[0] == "insert" for step in program)
    return tuple(step[1:] for step in program), removals


class SmallHeaps(ErrorCase):
    """[3] (f): all pairs of small heaps, against a search."""

    def test_distances_and_plans(self):
        for start in HEAPS:
            found = distances(start, (1, 2, 3), 6)
            for goal in HEAPS:
                first, last = by_hand.bag(start), by_hand.bag(goal)
                self.assertEqual(distance(first, last), found[goal], (start, goal))
                program = plan(first, last)
                self.assertEqual(step_count(program), found[goal])
                heap = Heap(first)
                heap.run(program)
                self.assertEqual(heap.contents, last)
                # Each number is inserted by one step, in ascending order, after all removals.
                inserted, _ = shape_of(program)
                self.assertEqual(inserted, by_hand.bag(by_hand.numbers(inserted)))

    def test_stocks(self):
        for start in by_hand.heaps((1, 2, 3), 3):
            for stock in by_hand.heaps((1, 2, 3), 3):
                goals = reached(start, stock)
                for goal in by_hand.heaps((1, 2, 3), 3):
                    first, last = by_hand.bag(start), by_hand.bag(goal)
                    expected = plan(first, last) if goal in goals else None
                    self.assertEqual(plan(first, last, stock=by_hand.bag(stock)), expected, (start, goal, stock))


class GreatHeaps(ErrorCase):
    def test_equal_heaps(self):
        for bag in ((), ((5, 1),), ((-2, HUGE), (5, 3))):
            self.assertEqual(distance(bag, bag), 0)
            self.assertEqual(plan(bag, bag), ())
            self.assertEqual(plan(bag, bag, stock=()), ())

    def test_from_nothing_and_to_nothing(self):
        bag = ((-2, 3), (5, HUGE))
        self.assertEqual(distance((), bag), HUGE + 3)
        self.assertEqual(plan((), bag), (("insert", -2, 3), ("insert", 5, HUGE)))
        self.assertEqual(distance(bag, ()), HUGE + 3)
        self.assertEqual(plan(bag, ()), (("remove", HUGE + 3),))

    def test_huge_counts(self):
        start = ((1, HUGE), (4, 3 * HUGE), (8, HUGE))
        for goal, removals, inserted in (
                (((1, HUGE), (4, 3 * HUGE), (8, HUGE + 1)), 0, ((8, 1),)),
                (((1, HUGE - 1), (4, 3 * HUGE), (8, HUGE)), 1, ()),
                (((0, 2), (1, 2 * HUGE), (4, 3 * HUGE), (8, HUGE)), 0, ((0, 2), (1, HUGE))),
                (((1, HUGE), (4, 3 * HUGE - 1), (8, HUGE)), HUGE + 1, ((1, HUGE),)),
                (((4, 3 * HUGE), (8, HUGE - 1), (9, 5)), 4 * HUGE + 1, ((4, 3 * HUGE), (9, 5))),
                (((4, 5 * HUGE),), 5 * HUGE, ((4, 5 * HUGE),)),
                (((8, HUGE),), 4 * HUGE, ())):
            self.assertEqual(distance(start, goal), removals + size_of(inserted))
            program = plan(start, goal)
            self.assertEqual(shape_of(program), (inserted, removals))
            heap = Heap(start)
            heap.run(program)
            self.assertEqual(heap.contents, goal)

    def test_a_stock_that_is_just_enough_and_one_that_lacks_one(self):
        start, goal = ((1, HUGE), (4, 3)), ((2, HUGE), (3, 1), (4, 3), (6, 2))
        program = (("remove", HUGE), ("insert", 2, HUGE), ("insert", 3, 1), ("insert", 6, 2))
        self.assertEqual(plan(start, goal), program)
        self.assertEqual(plan(start, goal, stock=None), program)
        for stock in (((2, HUGE), (3, 1), (6, 2)), goal, ((0, 1), (2, HUGE + 1), (3, 2), (5, 1), (6, 3))):
            self.assertEqual(plan(start, goal, stock=stock), program)
        for stock in ((), ((2, HUGE - 1), (3, 1), (6, 2)), ((2, HUGE), (6, 2)), ((2, HUGE), (3, 1), (6, 1)),
                      ((2, HUGE), (3, 1)), ((1, HUGE), (4, 3)), ((3, HUGE), (4, HUGE), (6, HUGE))):
            self.assertIsNone(plan(start, goal, stock=stock))

    def test_many_entries(self):
        start = tuple((number, 10 ** 99) for number in range(0, 200, 2))
        goal = tuple((number, 10 ** 99) for number in range(1, 200, 2))
        self.assertEqual(distance(start, goal), 2 * 100 * 10 ** 99)
        self.assertEqual(distance(start, start[1:]), 10 ** 99)
        self.assertEqual(Effect.of(plan(start, goal)).apply(start), goal)

    def test_results_move_along(self):
        source = random.Random(1)
        for _ in range(100):
            start, goal, stock = [by_hand.bag(source.choices((1, 2, 5), k=source.randint(0, 5))) for _ in range(3)]
            for by in (-4, HUGE):
                far, there = by_hand.moved(start, by), by_hand.moved(goal, by)
                self.assertEqual(distance(far, there), distance(start, goal))
                self.assertEqual(plan(far, there), by_hand.moved_program(plan(start, goal), by))
                found = plan(start, goal, stock=stock)
                if found is not None:
                    found = by_hand.moved_program(found, by)
                self.assertEqual(plan(far, there, stock=by_hand.moved(stock, by)), found)


class Preimages(ErrorCase):
    """preimage."""

    def test_small_ones_against_a_search(self):
        found = none = 0
        heaps = {size: list(by_hand.heaps((0, 1, 2, 3, 4), size)) for size in range(6)}
        for triple in by_hand.triples((1, 2, 3), 2, 3):
            effect = Effect(*triple)
            steps = by_hand.normal(triple)
            images = {}
            for heap in heaps[5]:
                outcome = by_hand.run(heap, steps)
                if outcome is not None:
                    images[outcome[0]] = heap
            for result in by_hand.bags((0, 1, 2, 3, 4), 2):
                bag = preimage(effect, result)
                if result in images:
                    found += 1
                    self.assertEqual(by_hand.run(by_hand.numbers(bag), steps)[0], result)
                    self.assertEqual(effect.apply(bag), result)
                else:
                    none += 1
                    self.assertIsNone(bag, (triple, result))
        self.assertGreater(found, 100)
        self.assertGreater(none, 100)

    def test_what_an_effect_makes_has_a_preimage(self):
        source = random.Random(2)
        for _ in range(300):
            effect = Effect.of((("repeat", source.choice((1, 3, HUGE)),
                                 by_hand.random_program(source, (-3, 1, 2, 8), 4, 3)),))
            bag = by_hand.bag(source.choices((-5, -3, 1, 2, 5, 8), k=source.randint(0, 6)))
            bag = tuple((number, count * source.choice((1, HUGE))) for number, count in bag) + ((9, effect.needed + 1),)
            result = effect.apply(bag)
            self.assertEqual(effect.apply(preimage(effect, result)), result)

    def test_huge_counts(self):
        effect = power(Effect.of((("insert", 3, 1), ("insert", 7, 1), ("remove", 1))), HUGE)
        for result in (((7, HUGE),), ((3, 5), (7, HUGE)), ((7, 2 * HUGE), (8, 1)), ((1, HUGE), (3, HUGE), (7, HUGE))):
            self.assertEqual(effect.apply(preimage(effect, result)), result)
        for result in ((), ((7, HUGE - 1),), ((2, 1), (7, HUGE)), ((1, HUGE), (3, HUGE - 1), (7, HUGE))):
            self.assertIsNone(preimage(effect, result))
        effect = Effect((), HUGE, ())
        for result in ((), ((5, 1),), ((5, HUGE), (6, HUGE))):
            self.assertEqual(effect.apply(preimage(effect, result)), result)
        effect = Effect(((5, HUGE),), HUGE, ())
        self.assertEqual(preimage(effect, ((5, HUGE), (6, 1))), ((5, HUGE), (6, 1)))
        self.assertIsNone(preimage(effect, ((4, 1), (5, HUGE - 1))))
        self.assertEqual(preimage(effect, ()), ())

    def test_the_identity(self):
        for bag in ((), ((5, 1),), ((-2, HUGE), (5, 3))):
            self.assertEqual(preimage(Effect.identity(), bag), bag)

    def test_whether_there_is_one_moves_along(self):
        for triple in by_hand.triples((1, 2), 2, 3):
            effect = Effect(*triple)
            for result in by_hand.bags((0, 1, 2, 3), 2):
                far = preimage(effect.moved(HUGE), by_hand.moved(result, HUGE))
                self.assertEqual(far is None, preimage(effect, result) is None)
                if far is not None:
                    self.assertEqual(effect.apply(by_hand.moved(far, -HUGE)), result)


class General(ErrorCase):
    """[2]: names of arguments, wrong arguments and their order."""

    START = ((1, 1), (5, 1))
    GOAL = ((5, 1), (6, 1))

    def test_arguments_by_name_and_the_stock_by_name_only(self):
        self.assertEqual(distance(goal=self.GOAL, start=self.START), 2)
        self.assertEqual(plan(stock=self.GOAL, goal=self.GOAL, start=self.START), (("remove", 1), ("insert", 6, 1)))
        self.assertEqual(preimage(result=self.GOAL, effect=Effect.identity()), self.GOAL)
        self.assertRaises(TypeError, plan, self.START, self.GOAL, self.GOAL)

    def test_wrong_bags(self):
        for wrong in NOT_BAGS:
            for call in (distance, plan):
                self.assert_error(InvalidBag, "value", wrong, call, wrong, self.GOAL)
                self.assert_error(InvalidBag, "value", wrong, call, self.START, wrong)
                self.assert_error(InvalidBag, "value", wrong, call, wrong, HOSTILE)
            if wrong is not None:
                self.assert_error(InvalidBag, "value", wrong, plan, self.START, self.GOAL, stock=wrong)
                self.assert_error(InvalidBag, "value", wrong, plan, self.START, self.START, stock=wrong)
            self.assert_error(InvalidBag, "value", wrong, plan, self.START, wrong, stock=HOSTILE)
            self.assert_error(InvalidBag, "value", wrong, plan, wrong, self.GOAL, stock=HOSTILE)
            self.assert_error(InvalidBag, "value", wrong, preimage, Effect.identity(), wrong)

    def test_wrong_effects(self):
        for wrong in NOT_EFFECTS:
            self.assert_error(InvalidEffect, "part", "effect", preimage, wrong, self.GOAL)
            self.assert_error(InvalidEffect, "part", "effect", preimage, wrong, HOSTILE)

    def test_a_stock_is_checked_whatever_the_goal(self):
        self.assertTrue(contains(self.GOAL, ()))
        self.assert_error(InvalidBag, "value", False, plan, (), (), stock=False)
        self.assert_error(InvalidBag, "value", [], plan, (), (), stock=[])


if __name__ == "__main__":
    unittest.main()
