"""Points [2], [3] (d) and (i), [6], [12] and the interface of heapeffects/sequences.py."""

import inspect
import itertools
import math
import random
import unittest

from heapeffects.effects import Effect
from heapeffects.errors import InvalidEffect, InvalidSequence, LimitExceeded, OutOfRange
from heapeffects.sequences import all_sequences, check_sequence, count_sequences, effect_of, index_of, sequence_at
from tests import by_hand
from tests.wrong_values import HOSTILE, NOT_EFFECTS, NOT_ELEMENTARY, NOT_INDEXES, NOT_LISTS, ErrorCase

HUGE = 10 ** 30
REMOVE = ("remove", 1)


def insert(number):
    return ("insert", number, 1)


def inserts(*numbers):
    return [insert(number) for number in numbers]


def parts(effect):
    return effect.inserted, effect.removals, effect.survivors


def by_triple(values, length):
    """All sequences of so many steps, listed in ascending order under the triples of their effects."""
    rows = {}
    # by_hand.sequences takes insertions before removals and smaller numbers first, as [12] does.
    for steps in by_hand.sequences(values, length):
        rows.setdefault(by_hand.triple(steps), []).append(list(steps))
    return rows


def ways_by_hand(inserted, removals, survivors):
    """How many orders of all steps have an effect, by trying them all."""
    steps = inserts(*by_hand.numbers(inserted)) + [REMOVE] * removals
    orders = set(itertools.permutations(steps))
    return sum(by_hand.triple(order) == (inserted, removals, survivors) for order in orders)


class Checked(ErrorCase):
    """[6]: which values are sequences."""

    def refused(self, value, index):
        for call in (check_sequence, effect_of, index_of):
            self.assert_error(InvalidSequence, "index", index, call, value)

    def test_sequences(self):
        for value in ([], [REMOVE], inserts(5, -5, 0, HUGE), [REMOVE, insert(5)] * 20, [REMOVE] * 40):
            before = list(value)
            self.assertIsNone(check_sequence(value))
            self.assertIsNone(check_sequence(sequence=value))
            self.assertEqual(value, before)

    def test_values_that_are_not_lists(self):
        for wrong in NOT_LISTS:
            self.refused(wrong, None)
        for wrong in ((insert(5), REMOVE), "remove", {insert(5): 1}, Effect.identity(), Effect.identity().normal()):
            self.refused(wrong, None)

    def test_forty_items_and_more(self):
        self.assertIsNone(check_sequence([insert(5)] * 40))
        for many in (41, 42, 1000):
            self.refused([insert(5)] * many, None)
            self.refused([None] * many, None)
        self.refused([insert(5)] * 40 + [HOSTILE], None)
        self.refused([insert(5)] * 39 + [None], 39)

    def test_invalid_steps_wherever_they_stand(self):
        for wrong in NOT_ELEMENTARY:
            self.refused([wrong], 0)
            self.refused([wrong, REMOVE, insert(5)], 0)
            self.refused([REMOVE, wrong, insert(5)], 1)
            self.refused([REMOVE, insert(5), wrong], 2)
            self.refused([insert(5)] * 39 + [wrong], 39)

    def test_two_invalid_steps(self):
        for wrong in NOT_ELEMENTARY:
            self.refused([REMOVE, wrong, wrong], 1)
            self.refused([wrong, REMOVE, HOSTILE], 0)
            self.refused([REMOVE, insert(5), HOSTILE, wrong], 2)


class Effects(ErrorCase):
    """effect_of."""

    def test_against_a_run(self):
        for length in range(5):
            for steps in by_hand.sequences((1, 2), length):
                self.assertEqual(parts(effect_of(list(steps))), by_hand.triple(steps))

    def test_forty_steps(self):
        source = random.Random(1)
        for _ in range(20):
            steps = [insert(source.randint(-9, 9)) if source.random() < 0.6 else REMOVE for _ in range(40)]
            self.assertEqual(parts(effect_of(steps)), by_hand.triple(steps))
            self.assertEqual(effect_of(sequence=steps), Effect.of(tuple(steps)))

    def test_no_steps(self):
        self.assertEqual(effect_of([]), Effect.identity())

    def test_a_list_that_changes_later(self):
        steps = [insert(5), REMOVE]
        effect = effect_of(steps)
        steps.append(insert(6))
        self.assertEqual(parts(effect), (((5, 1),), 1, ()))


class SmallEffects(ErrorCase):
    """[3] (d), [12]: all sequences of small effects, against trying all orders of steps."""

    def compare(self, triple, sequences):
        effect = Effect(*triple)
        self.assertEqual(count_sequences(effect), len(sequences))
        self.assertEqual(list(all_sequences(effect)), sequences)
        for index, sequence in enumerate(sequences):
            self.assertEqual(sequence_at(effect, index), sequence)
            self.assertEqual(index_of(sequence), index)
        for index in (len(sequences), len(sequences) + 1, -1):
            self.assert_error(OutOfRange, "value", index, sequence_at, effect, index)

    def test_all_of_few_steps(self):
        for values, longest in (((1, 2), 6), ((1, 2, 3), 5), ((-4, 0, 2, 9), 4), ((5,), 7)):
            for length in range(longest + 1):
                for triple, sequences in by_triple(values, length).items():
                    self.compare(triple, sequences)

    def test_every_effect_has_a_sequence(self):
        for triple in by_hand.triples((1, 2, 3), 3, 4):
            self.assertGreater(count_sequences(Effect(*triple)), 0)

    def test_counts_of_more_steps(self):
        for inserted, removals, survivors in (
                (((1, 1), (2, 1), (3, 1), (4, 1)), 3, ((2, 1), (4, 1))),
                (((1, 2), (2, 2), (3, 1)), 3, ((2, 1), (3, 1))),
                (((1, 1), (2, 3), (5, 1)), 3, ((1, 1), (2, 1))),
                (((1, 3), (2, 1)), 4, ((1, 2),)),
                (((1, 1), (2, 1), (3, 1)), 5, ((1, 1), (3, 1)))):
            expected = ways_by_hand(inserted, removals, survivors)
            effect = Effect(inserted, removals, survivors)
            self.assertGreater(expected, 0)
            self.assertEqual(count_sequences(effect), expected)
            found = list(all_sequences(effect))
            self.assertEqual(len(found), expected)
            keys = [[(step[0], step[1]) for step in steps] for steps in found]
            # "insert" comes before "remove" also as a text.
            self.assertTrue(all(first < then for first, then in zip(keys, keys[1:])))
            self.assertTrue(all(by_hand.triple(steps) == (inserted, removals, survivors) for steps in found))

    def test_no_steps(self):
        effect = Effect.identity()
        self.assertEqual(count_sequences(effect), 1)
        self.assertEqual(list(all_sequences(effect)), [[]])
        self.assertEqual(sequence_at(effect, 0), [])
        self.assertEqual(index_of([]), 0)
        self.assert_error(OutOfRange, "value", 1, sequence_at, effect, 1)


class LongEffects(ErrorCase):
    """Effects with 12 steps, and with more."""

    TWELVE = (
        (tuple((number, 1) for number in range(12)), 0, tuple((number, 1) for number in range(12))),
        (((5, 12),), 0, ((5, 12),)),
        ((), 12, ()),
        (tuple((number, 1) for number in range(6)), 6, ()),
        (tuple((number, 1) for number in range(8)), 4, ((1, 1), (3, 1), (5, 1), (7, 1))),
        (((-2, 2), (4, 3), (HUGE, 2)), 5, ((4, 2), (HUGE, 1))),
        (((1, 1), (2, 1), (3, 1), (4, 1), (5, 1), (6, 1)), 6, ((1, 1), (3, 1), (5, 1))),
    )

    def test_twelve_steps(self):
        for triple in self.TWELVE:
            effect = Effect(*triple)
            count = count_sequences(effect)
            for index in {0, 1, count // 3, count // 2, count - 1}:
                if index < count:
                    steps = sequence_at(effect, index)
                    self.assertEqual(by_hand.triple(steps), triple)
                    self.assertEqual(index_of(steps), index)
            self.assert_error(OutOfRange, "value", count, sequence_at, effect, count)
            first = list(itertools.islice(all_sequences(effect), 30))
            self.assertEqual(first, [sequence_at(effect, index) for index in range(min(count, 30))])

    def test_counts_that_are_known(self):
        counts = [count_sequences(Effect(*triple)) for triple in self.TWELVE]
        self.assertEqual(counts[:3], [math.factorial(12), 1, 1])
        # The insertions in any order, and the removals so that none is idle: the Catalan number of 6.
        self.assertEqual(counts[3], math.factorial(6) * 132)

    def test_thirteen_steps(self):
        for triple, many in (((((5, 13),), 0, ((5, 13),)), 13), (((), 13, ()), 13), ((((1, 6),), 7, ()), 13),
                             ((((3, HUGE),), HUGE, ()), 2 * HUGE), ((((3, 1),), HUGE, ()), HUGE + 1)):
            effect = Effect(*triple)
            self.assert_error(LimitExceeded, "count", many, count_sequences, effect)
            for index in (0, -1, None, HOSTILE):
                self.assert_error(LimitExceeded, "count", many, sequence_at, effect, index)
            self.assert_error(LimitExceeded, "count", many, next, all_sequences(effect))
        self.assertEqual(index_of([REMOVE] * 12), 0)
        for many in (13, 14, 40):
            self.assert_error(LimitExceeded, "count", many, index_of, [REMOVE] * many)
            self.assert_error(LimitExceeded, "count", many, index_of, inserts(*range(many)))


class General(ErrorCase):
    """[2], [3] (i): names of arguments, wrong arguments, new lists and moved numbers."""

    EFFECT = Effect(((3, 1), (7, 2)), 2, ((7, 2),))

    def test_arguments_by_name(self):
        self.assertEqual(count_sequences(effect=self.EFFECT), len(list(all_sequences(effect=self.EFFECT))))
        self.assertEqual(sequence_at(index=1, effect=self.EFFECT), sequence_at(self.EFFECT, 1))
        self.assertEqual(index_of(sequence=sequence_at(self.EFFECT, 2)), 2)

    def test_a_generator_function(self):
        self.assertTrue(inspect.isgeneratorfunction(all_sequences))

    def test_wrong_effects(self):
        for wrong in NOT_EFFECTS:
            self.assert_error(InvalidEffect, "part", "effect", count_sequences, wrong)
            self.assert_error(InvalidEffect, "part", "effect", next, all_sequences(wrong))
            for index in (0, -1, HOSTILE):
                self.assert_error(InvalidEffect, "part", "effect", sequence_at, wrong, index)

    def test_wrong_indexes(self):
        for wrong in NOT_INDEXES:
            self.assert_error(OutOfRange, "value", wrong, sequence_at, self.EFFECT, wrong)
            self.assert_error(OutOfRange, "value", wrong, sequence_at, Effect.identity(), wrong)

    def test_every_list_is_new(self):
        expected = [list(steps) for steps in all_sequences(self.EFFECT)]
        for steps in all_sequences(self.EFFECT):
            steps.clear()
        sequence_at(self.EFFECT, 0).clear()
        self.assertEqual(list(all_sequences(self.EFFECT)), expected)
        self.assertEqual(sequence_at(self.EFFECT, 0), expected[0])
        for steps in expected:
            before = list(steps)
            index_of(steps)
            self.assertEqual(steps, before)

    def test_two_generators_at_once(self):
        expected = list(all_sequences(self.EFFECT))
        pairs = list(zip(all_sequences(self.EFFECT), all_sequences(self.EFFECT)))
        self.assertEqual(pairs, list(zip(expected, expected)))

    def test_results_move_along(self):
        for triple in by_hand.triples((1, 2, 4), 3, 2):
            effect = Effect(*triple)
            for by in (-3, HUGE):
                self.assertEqual(count_sequences(effect.moved(by)), count_sequences(effect))
                self.assertEqual(list(all_sequences(effect.moved(by))),
                                 [by_hand.moved_sequence(steps, by) for steps in all_sequences(effect)])
                for index in range(count_sequences(effect)):
                    self.assertEqual(index_of(by_hand.moved_sequence(sequence_at(effect, index), by)), index)


if __name__ == "__main__":
    unittest.main()
