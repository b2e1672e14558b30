"""Points [2], [3] (h) and (i), [11], [16] and the interface of heapeffects/observations.py."""

import itertools
import random
import unittest
from math import comb

from heapeffects.effects import Effect
from heapeffects.errors import InvalidBag, InvalidCount, InvalidEffect, InvalidObservations, LimitExceeded
from heapeffects.observations import agrees, possible_survivors, question_size
from tests import by_hand
from tests.wrong_values import HOSTILE, NOT_BAGS, NOT_COUNTS, NOT_EFFECTS, NOT_LISTS, ErrorCase

HUGE = 10 ** 30
PAIR = (((1, 2),), ((1, 1), (5, 1)))

NOT_OBSERVATIONS = (
    None, True, 5, "", "ab", b"", [], {}, object(), HOSTILE, (), ((),), ((), (), ()), [(), ()], (None, ()), ((), None),
    ((), []), ([], ()), (((5, 0),), ()), ((), ((5, 1), (5, 1))), (HOSTILE, ()), ((), HOSTILE), (((5, 1)), ()),
) + tuple((wrong, ()) for wrong in NOT_BAGS) + tuple(((), wrong) for wrong in NOT_BAGS)


def result(triple, heap):
    """What an effect makes of a heap, as a bag, or None if the heap is too small."""
    outcome = by_hand.run(heap, by_hand.normal(triple))
    return None if outcome is None else outcome[0]


def candidates(inserted, removals):
    """All survivors that make an effect, as bags."""
    numbers = by_hand.numbers(inserted)
    least = max(len(numbers) - removals, 0)
    parts = {part for size in range(least, len(numbers) + 1) for part in itertools.combinations(numbers, size)}
    return [by_hand.bag(part) for part in sorted(parts)]


def agreeing(inserted, removals, observations):
    """The survivors that agree with the observations, by trying all of them."""
    return [survivors for survivors in candidates(inserted, removals)
            if all(result((inserted, removals, survivors), by_hand.numbers(before)) == after
                   for before, after in observations)]


def differ(inserted, removals, one, other, size):
    """Whether two effects differ on a heap of so many great numbers."""
    heap = [max([number for number, _ in inserted], default=0) + 1] * size
    return result((inserted, removals, one), heap) != result((inserted, removals, other), heap)


class SmallEffects(ErrorCase):
    """[3] (h): small effects, against trying all survivors on sorted lists."""

    def check(self, inserted, removals, observations):
        found = agreeing(inserted, removals, observations)
        for survivors in candidates(inserted, removals):
            self.assertIs(agrees(Effect(inserted, removals, survivors), observations), survivors in found)
        told = possible_survivors(inserted, removals, observations)
        self.assertEqual(told, (len(found), *self.extremes(found)), (inserted, removals, observations))
        self.check_question(inserted, removals, observations, found)
        return len(found)

    def extremes(self, found):
        if not found:
            return None, None
        least = [one for one in found if all(by_hand.greater(other, one) for other in found)]
        greatest = [one for one in found if all(by_hand.greater(one, other) for other in found)]
        self.assertEqual((len(least), len(greatest)), (1, 1))
        return least[0], greatest[0]

    def check_question(self, inserted, removals, observations, found):
        size = question_size(inserted, removals, observations)
        if len(found) < 2:
            self.assertIsNone(size)
            return
        sizes = [many for many in range(removals + 2) if all(
            differ(inserted, removals, one, other, many) for one, other in itertools.combinations(found, 2))]
        self.assertEqual(size, sizes[0])

    def test_no_observations(self):
        for inserted in by_hand.bags((1, 2, 3), 4):
            for removals in range(6):
                self.assertGreater(self.check(inserted, removals, []), 0)

    def test_one_observation(self):
        counts = set()
        for inserted in by_hand.bags((1, 3), 3):
            for removals in range(4):
                for before in by_hand.heaps((0, 1, 2, 3, 4), 3):
                    for after in self.results(inserted, removals, before):
                        counts.add(self.check(inserted, removals, [(by_hand.bag(before), after)]))
        self.assertTrue({0, 1, 2, 3} <= counts)

    def results(self, inserted, removals, before):
        """What the effects make of a heap, and one or two results of none of them."""
        made = {result((inserted, removals, survivors), before) for survivors in candidates(inserted, removals)}
        made.discard(None)
        return sorted(made) + [((0, 1),), by_hand.bag(before)]

    def test_several_observations(self):
        source = random.Random(1)
        counts = []
        for _ in range(400):
            inserted = by_hand.bag(source.choices((1, 2, 4), k=source.randint(0, 5)))
            removals = source.randint(0, 6)
            survivors = source.choice(candidates(inserted, removals))
            observations = []
            for _ in range(source.randint(1, 4)):
                before = source.choices((0, 1, 2, 3, 4, 5), k=source.randint(0, 8))
                after = result((inserted, removals, survivors), before)
                if after is None or source.random() < 0.05:
                    continue
                observations.append((by_hand.bag(before), after))
            found = self.check(inserted, removals, observations)
            self.assertGreater(found, 0)
            counts.append(found)
        self.assertGreater(len(set(counts)), 5)

    def test_observations_that_contradict_each_other(self):
        inserted, heap = ((3, 1), (7, 1)), ((9, 1),)
        one, other = (heap, ((3, 1), (9, 1))), (heap, ((7, 1), (9, 1)))
        self.assertEqual(self.check(inserted, 1, [one]), 1)
        self.assertEqual(self.check(inserted, 1, [other]), 1)
        self.assertEqual(self.check(inserted, 1, [one, other]), 0)
        self.assertEqual(self.check(inserted, 1, [other, one, other]), 0)
        self.assertEqual(self.check(inserted, 1, [(heap, ((3, 1), (7, 1))), other]), 0)

    def test_heaps_that_are_too_small(self):
        # On the empty heap only those do not fail whose removals are all met by consumed numbers.
        self.assertEqual(self.check(((3, 1), (7, 1)), 2, [((), ())]), 1)
        self.assertEqual(self.check(((3, 1), (7, 1)), 3, [((), ())]), 0)
        self.assertEqual(self.check(((3, 1), (7, 1)), 2, [((), ((7, 1),))]), 0)
        self.assertEqual(self.check((), 1, [((), ())]), 0)
        self.assertEqual(self.check((), 0, [((), ())]), 1)
        self.assertEqual(self.check((), 1, [(((5, 1),), ())]), 1)
        self.assertEqual(self.check((), 1, [(((5, 2),), ((5, 1),)), (((5, 1), (6, 1)), ((5, 1),))]), 0)

    def test_twenty_observations(self):
        inserted = ((1, 2), (2, 2), (4, 1))
        heaps = [heap for heap in by_hand.heaps((0, 3, 5), 5) if len(heap) >= 3][:20]
        for survivors in candidates(inserted, 3):
            observations = [(by_hand.bag(heap), result((inserted, 3, survivors), heap)) for heap in heaps]
            self.assertEqual(len(observations), 20)
            self.assertGreater(self.check(inserted, 3, observations), 0)


class GreatEffects(ErrorCase):
    def test_huge_counts(self):
        inserted = ((3, 2), (7, 1))
        before = ((1, HUGE), (9, HUGE))
        for survivors in candidates(inserted, 5):
            for removals in (5, HUGE, HUGE + 3, 2 * HUGE - 3):
                observations = [(before, Effect(inserted, removals, survivors).apply(before))]
                self.assertTrue(agrees(Effect(inserted, removals, survivors), observations))
                count, least, greatest = possible_survivors(inserted, removals, observations)
                found = [each for each in candidates(inserted, 5) if agrees(Effect(inserted, removals, each), observations)]
                self.assertEqual(count, len(found))
                self.assertIn(survivors, found)
                self.assertIn(least, found)
                self.assertIn(greatest, found)
                for each in found:
                    self.assertTrue(by_hand.greater(each, least) and by_hand.greater(greatest, each))

    def test_huge_removals(self):
        inserted = ((3, 1), (7, 1))
        self.assertEqual(possible_survivors(inserted, HUGE, []), (4, (), inserted))
        # Three effects need HUGE - 1 numbers or fewer, and the one that needs HUGE may fail.
        self.assertEqual(question_size(inserted, HUGE, []), HUGE - 1)
        self.assertEqual(question_size((), HUGE, []), None)
        self.assertEqual(question_size(((3, 1),), HUGE, []), HUGE - 1)

    def test_two_hundred_inserted_numbers(self):
        flat = tuple((number, 1) for number in range(100))
        self.assertEqual(possible_survivors(flat, 100, []), (2 ** 100, (), flat))
        self.assertEqual(possible_survivors(flat, 50, [])[0], sum(comb(100, many) for many in range(51)))
        self.assertEqual(possible_survivors(flat, 50, [])[1:], (flat[50:], flat))
        double = tuple((number, 2) for number in range(100))
        self.assertEqual(possible_survivors(double, 200, []), (3 ** 100, (), double))
        self.assertEqual(question_size(double, 200, []), 199)
        self.assertEqual(possible_survivors(((5, 200),), 7, []), (8, ((5, 193),), ((5, 200),)))
        self.assertEqual(question_size(((5, 200),), 7, []), 6)
        seen = Effect(double, 150, double[30:])
        heap = ((1000, 150),)
        self.assertEqual(possible_survivors(double, 150, [(heap, seen.apply(heap))]), (1, double[30:], double[30:]))

    def test_more_than_two_hundred(self):
        for size in (201, 202, HUGE):
            for bag in (((5, size),), ((1, 1), (5, size - 2), (9, 1))):
                for call in (possible_survivors, question_size):
                    self.assert_error(LimitExceeded, "count", size, call, bag, 0, [])
                    self.assert_error(LimitExceeded, "count", size, call, bag, HUGE, [PAIR])
        self.assertTrue(agrees(Effect(((5, HUGE),), 0, ((5, HUGE),)), [((), ((5, HUGE),))]))

    def test_a_question_that_is_not_needed(self):
        inserted = ((3, 1), (7, 1))
        for observations in ([(((9, 2),), ((7, 1), (9, 2)))], [(((9, 2),), ((2, 5),))]):
            self.assertIsNone(question_size(inserted, 1, observations))


class Rules(ErrorCase):
    """How the functions hang together, on larger effects."""

    def test_what_an_effect_made_agrees_with_it(self):
        source = random.Random(2)
        for _ in range(100):
            effect = Effect.of(by_hand.random_program(source, (-3, 1, 2, 8, 9), 6, 3))
            heaps = [by_hand.bag(source.choices((-4, -3, 0, 2, 8, 10), k=effect.needed + many)) for many in range(3)]
            observations = [(heap, effect.apply(heap)) for heap in heaps]
            self.assertTrue(agrees(effect, observations))
            if sum(count for _, count in effect.inserted) <= 200:
                count, least, greatest = possible_survivors(effect.inserted, effect.removals, observations)
                for survivors in (least, greatest):
                    self.assertTrue(agrees(Effect(effect.inserted, effect.removals, survivors), observations))
                self.assertTrue(by_hand.greater(effect.survivors, least))
                self.assertTrue(by_hand.greater(greatest, effect.survivors))
                self.assertEqual(count == 1, question_size(effect.inserted, effect.removals, observations) is None)
                self.assertEqual(count == 1, least == greatest)

    def test_the_answer_to_the_question_leaves_one(self):
        for triple in by_hand.triples((1, 2, 4), 3, 3):
            inserted, removals, survivors = triple
            size = question_size(inserted, removals, [])
            if size is not None and Effect(*triple).needed <= size:
                heap = ((9, size),) if size else ()
                answer = [(heap, Effect(*triple).apply(heap))]
                self.assertEqual(possible_survivors(inserted, removals, answer), (1, survivors, survivors))
                self.assertIsNone(question_size(inserted, removals, answer))

    def test_results_move_along(self):
        source = random.Random(3)
        for _ in range(60):
            triple = source.choice(list(by_hand.triples((1, 2, 4), 3, 3)))
            effect = Effect(*triple)
            heap = by_hand.bag(source.choices((0, 1, 2, 3, 4, 5), k=effect.needed + 1))
            observations = [(heap, effect.apply(heap))]
            for by in (-7, HUGE):
                far = [tuple(by_hand.moved(bag, by) for bag in observations[0])]
                inserted = by_hand.moved(effect.inserted, by)
                self.assertTrue(agrees(effect.moved(by), far))
                count, *bags = possible_survivors(effect.inserted, effect.removals, observations)
                self.assertEqual(possible_survivors(inserted, effect.removals, far),
                                 (count, *[by_hand.moved(bag, by) for bag in bags]))
                self.assertEqual(question_size(inserted, effect.removals, far),
                                 question_size(effect.inserted, effect.removals, observations))


class General(ErrorCase):
    """[2], [16]: names of arguments, wrong arguments and their order."""

    INSERTED = ((3, 1), (7, 1))
    EFFECT = Effect(((5, 1),), 1, ((5, 1),))

    def test_arguments_by_name(self):
        self.assertIs(agrees(observations=[PAIR], effect=self.EFFECT), True)
        self.assertEqual(possible_survivors(observations=[], removals=1, inserted=self.INSERTED),
                         (3, ((7, 1),), self.INSERTED))
        self.assertEqual(question_size(observations=[], removals=1, inserted=self.INSERTED), 0)

    def calls(self):
        """Each function with right arguments, which stand before the observations."""
        return ((agrees, (self.EFFECT,)), (possible_survivors, (self.INSERTED, 1)), (question_size, (self.INSERTED, 1)))

    def test_wrong_observations(self):
        for call, arguments in self.calls():
            for wrong in NOT_LISTS + ((PAIR,), {PAIR: 1}, "ab", PAIR):
                self.assert_error(InvalidObservations, "index", None, call, *arguments, wrong)
            for wrong in NOT_OBSERVATIONS:
                for observations, index in (([wrong], 0), ([wrong, HOSTILE, PAIR], 0), ([PAIR, wrong, wrong], 1),
                                            ([PAIR, PAIR, wrong], 2), ([PAIR] * 19 + [wrong], 19)):
                    self.assert_error(InvalidObservations, "index", index, call, *arguments, observations)

    def test_twenty_one(self):
        for call, arguments in self.calls():
            call(*arguments, [PAIR] * 20)
            for many in (21, 22, 1000):
                self.assert_error(InvalidObservations, "index", None, call, *arguments, [PAIR] * many)
                self.assert_error(InvalidObservations, "index", None, call, *arguments, [None] * many)

    def test_the_other_arguments(self):
        for wrong in NOT_EFFECTS:
            for observations in ([], None, [HOSTILE]):
                self.assert_error(InvalidEffect, "part", "effect", agrees, wrong, observations)
        for call in (possible_survivors, question_size):
            for wrong in NOT_BAGS:
                self.assert_error(InvalidBag, "value", wrong, call, wrong, 1, [])
                self.assert_error(InvalidBag, "value", wrong, call, wrong, HOSTILE, HOSTILE)
            for wrong in NOT_COUNTS:
                self.assert_error(InvalidCount, "value", wrong, call, self.INSERTED, wrong, [])
                self.assert_error(InvalidCount, "value", wrong, call, ((5, 201),), wrong, HOSTILE)
            # The limit comes after the errors of all arguments.
            self.assert_error(InvalidObservations, "index", None, call, ((5, 201),), 1, None)
            self.assert_error(InvalidObservations, "index", 1, call, ((5, 201),), 1, [PAIR, None])

    def test_nothing_changes(self):
        observations = [PAIR, PAIR]
        for call, arguments in self.calls():
            first = call(*arguments, observations)
            self.assertEqual(call(*arguments, observations), first)
        self.assertEqual(observations, [PAIR, PAIR])


if __name__ == "__main__":
    unittest.main()
