"""Points [2], [3] (d) and (i), [6], [13] and the interface of heapeffects/derivations.py."""

import random
import unittest

from heapeffects.derivations import allowed_exchanges, check_derivation, derivation
from heapeffects.errors import InvalidSequence
from tests import by_hand
from tests.wrong_values import HOSTILE, NOT_ELEMENTARY, NOT_LISTS, NOT_NUMBERS, ErrorCase

HUGE = 10 ** 30
REMOVE = ("remove", 1)


def insert(number):
    return ("insert", number, 1)


def exchanged(steps, index):
    return steps[:index] + [steps[index + 1], steps[index]] + steps[index + 2:]


def allowed(steps, index):
    """Whether an exchange is allowed, by running the steps before and after it."""
    return steps[index] != steps[index + 1] and by_hand.triple(steps) == by_hand.triple(exchanged(steps, index))


def holds(steps, target, indexes):
    """Whether a list of integers is a derivation, by running the steps at each exchange."""
    for index in indexes:
        if not 0 <= index < len(steps) - 1 or not allowed(steps, index):
            return False
        steps = exchanged(steps, index)
    return steps == target


def random_steps(source, values, many, share):
    return [insert(source.choice(values)) if source.random() < share else REMOVE for _ in range(many)]


def walk(source, steps, many):
    """Steps that are reached by so many random exchanges that are allowed, and these."""
    indexes = []
    for _ in range(many):
        choices = [index for index in range(len(steps) - 1) if allowed(steps, index)]
        if choices:
            indexes.append(source.choice(choices))
            steps = exchanged(steps, indexes[-1])
    return steps, indexes


class Exchanges(ErrorCase):
    """allowed_exchanges."""

    def compare(self, steps):
        expected = [index for index in range(len(steps) - 1) if allowed(steps, index)]
        self.assertEqual(allowed_exchanges(steps), expected, steps)
        return len(expected)

    def test_all_of_few_steps(self):
        for values, longest in (((1, 2), 5), ((1, 2, 3), 4)):
            for length in range(longest + 1):
                for steps in by_hand.sequences(values, length):
                    self.compare(list(steps))

    def test_forty_steps(self):
        source = random.Random(1)
        found = 0
        for share in (0.2, 0.5, 0.7, 0.9) * 5:
            found += self.compare(random_steps(source, (1, 2, 5, 6, 9), 40, share))
        self.assertGreater(found, 200)

    def test_equal_neighbours_are_never_exchanged(self):
        for steps in ([REMOVE] * 40, [insert(5)] * 40, [insert(5), insert(5), REMOVE, REMOVE]):
            for index in range(len(steps) - 1):
                if steps[index] == steps[index + 1]:
                    self.assertNotIn(index, allowed_exchanges(steps))
                    self.assertIs(check_derivation(steps, steps, [index]), False)
                    self.assertIs(check_derivation(steps, steps, [index, index]), False)
        self.assertEqual(allowed_exchanges([REMOVE] * 40), [])

    def test_what_a_later_removal_makes_good(self):
        # The number that is removed differs, but a later removal takes the other one.
        self.assertEqual(allowed_exchanges([insert(5), REMOVE, insert(3), REMOVE]), [1])
        self.assertEqual(allowed_exchanges([insert(3), insert(1), REMOVE, REMOVE]), [0, 1])
        self.assertEqual(allowed_exchanges([insert(3), insert(1), REMOVE]), [0])
        self.assertEqual(allowed_exchanges([insert(3), REMOVE]), [])

    def test_no_neighbours(self):
        for steps in ([], [REMOVE], [insert(5)]):
            self.assertEqual(allowed_exchanges(steps), [])


class Derivations(ErrorCase):
    """derivation."""

    def check(self, steps, target):
        found = derivation(steps, target)
        self.assertIs(type(found), list)
        self.assertTrue(holds(steps, target, found), (steps, target, found))
        self.assertLessEqual(len(found), len(steps) ** 2)
        self.assertIs(check_derivation(steps, target, found), True)

    def test_all_pairs_of_few_steps(self):
        for values, longest in (((1, 2), 4), ((1, 2, 3), 3)):
            every = [list(steps) for length in range(longest + 1) for steps in by_hand.sequences(values, length)]
            triples = [by_hand.triple(steps) for steps in every]
            for steps, effect in zip(every, triples):
                for target, other in zip(every, triples):
                    if effect == other:
                        self.check(steps, target)
                    else:
                        self.assertIsNone(derivation(steps, target))
                        self.assertIs(check_derivation(steps, target, []), False)

    def test_all_pairs_of_one_effect(self):
        rows = {}
        for steps in by_hand.sequences((1, 2), 6):
            rows.setdefault(by_hand.triple(steps), []).append(list(steps))
        for rows_of_one in sorted(rows.values(), key=len)[-6:]:
            for steps in rows_of_one:
                for target in rows_of_one:
                    self.check(steps, target)

    def test_forty_steps(self):
        source = random.Random(2)
        for share in (0.3, 0.5, 0.6, 0.8) * 3:
            steps = random_steps(source, (1, 2, 2, 5, 9), 40, share)
            target, indexes = walk(source, steps, 60)
            self.check(steps, target)
            self.check(target, steps)
            self.assertIs(check_derivation(steps, target, indexes), True)

    def test_far_away(self):
        ascending = [insert(number) for number in range(40)]
        self.check(ascending, ascending[::-1])
        removed = [insert(number) for number in range(20)] + [REMOVE] * 20
        back = [insert(19)]
        for number in range(18, -1, -1):
            back += [insert(number), REMOVE]
        self.check(removed, back + [REMOVE])
        self.check(back + [REMOVE], removed)

    def test_the_empty_derivation(self):
        for steps in ([], [REMOVE], [insert(5), REMOVE], [insert(9), insert(5), REMOVE, insert(5)]):
            self.assertEqual(derivation(steps, list(steps)), [])
        self.assertIsNone(derivation([], [REMOVE]))
        self.assertIsNone(derivation([insert(5), REMOVE], [REMOVE, insert(5)]))
        self.assertIsNone(derivation([insert(5)], [insert(6)]))


class Checker(ErrorCase):
    """check_derivation."""

    START = [insert(7), insert(3), REMOVE]
    GOAL = [insert(3), REMOVE, insert(7)]

    def refused(self, value, start=None, goal=None):
        self.assertIs(check_derivation(start or self.START, goal or self.GOAL, value), False)

    def test_every_short_list(self):
        for start in by_hand.sequences((3, 7), 3):
            for goal in ([*start], self.GOAL, [start[1], start[0], start[2]]):
                for indexes in [[]] + [[one] for one in range(-2, 4)] + [
                        [one, other] for one in range(-2, 4) for other in range(-2, 4)]:
                    self.assertIs(check_derivation(list(start), goal, indexes), holds(list(start), goal, indexes))

    def test_random_lists(self):
        source = random.Random(3)
        found = []
        for _ in range(400):
            steps = random_steps(source, (1, 2, 3), source.randint(2, 7), 0.6)
            target, indexes = walk(source, steps, source.randint(0, 5))
            if source.random() < 0.6:
                indexes = list(indexes)
                at = source.randint(0, len(indexes))
                indexes[at:at + source.randint(0, 1)] = [source.randint(0, len(steps) - 1)] * source.randint(0, 1)
            found.append(check_derivation(steps, target, indexes))
            self.assertIs(found[-1], holds(steps, target, indexes))
        self.assertGreater(found.count(True), 100)
        self.assertGreater(found.count(False), 100)

    def test_values_of_every_kind(self):
        for value in NOT_LISTS + ((0, 1), (), {0: 1}, "01", range(2), iter([0, 1]), self.START, self.GOAL):
            self.refused(value)
            if not isinstance(value, list):
                self.assertIs(check_derivation([], [], value), False)
                self.assertIs(check_derivation(self.START, self.START, value), False)

    def test_indexes_of_every_kind(self):
        for wrong in NOT_NUMBERS:
            self.refused([wrong])
            self.refused([wrong, 1])
            self.refused([0, wrong])
            self.refused([0, 1, wrong])
        # As integers, these two would be the derivation.
        self.refused([False, True])
        self.refused([0, True])
        self.refused([0.0, 1])
        self.refused([[0, 1]])

    def test_indexes_out_of_range(self):
        for wrong in (2, 3, -1, -2, -3, HUGE, -HUGE):
            self.refused([0, 1, wrong])
            self.refused([wrong, 0, 1])
            self.refused([0, wrong, 1])
        for steps in ([], [REMOVE]):
            for wrong in (0, -1, 1):
                self.assertIs(check_derivation(steps, list(steps), [wrong]), False)
            self.assertIs(check_derivation(steps, list(steps), []), True)

    def test_an_exchange_too_many_too_few_or_elsewhere(self):
        self.assertIs(check_derivation(self.START, self.GOAL, [0, 1]), True)
        for wrong in ([], [0], [1], [0, 0], [1, 0], [1, 1], [0, 1, 1], [0, 0, 1], [0, 1, 0], [0, 1, 0, 0]):
            self.refused(wrong)
        self.assertIs(check_derivation(self.START, self.GOAL, [0, 0, 0, 1, 1, 1]), True)

    def test_an_exchange_that_changes_the_effect_and_is_taken_back(self):
        start = [insert(3), REMOVE, insert(7)]
        self.refused([0, 0], start, start)
        self.refused([0, 0, 1, 1], start, start)
        self.assertIs(check_derivation(start, start, [1, 1]), True)

    def test_long_lists_that_lead_back(self):
        self.assertIs(check_derivation(self.START, self.GOAL, [0] * 20000 + [0, 1]), True)
        self.refused([0] * 20001 + [0, 1])
        start = [insert(number) for number in range(40)]
        there = derivation(start, start[::-1])
        self.assertIs(check_derivation(start, start, (there + there[::-1]) * 5), True)
        self.assertIs(check_derivation(start, start[::-1], (there + there[::-1]) * 5 + there), True)
        self.refused((there + there[::-1]) * 5 + there[:-1], start, start[::-1])
        # The last exchange of a long list is the only one that is not allowed.
        steps = [insert(7), insert(3), REMOVE, insert(9)]
        self.assertIs(check_derivation(steps, steps, [0] * 5000), True)
        self.refused([0] * 5000 + [1, 2, 1], steps, steps)

    def test_different_effects(self):
        self.assertIs(check_derivation([insert(5), REMOVE], [REMOVE, insert(5)], [0]), False)
        self.assertIs(check_derivation([insert(5)], [insert(6)], []), False)
        self.assertIs(check_derivation([], [REMOVE], []), False)


class General(ErrorCase):
    """[2], [3] (i): names of arguments, wrong arguments, new lists and moved numbers."""

    START = Checker.START
    GOAL = Checker.GOAL

    def test_arguments_by_name(self):
        self.assertEqual(allowed_exchanges(sequence=self.START), [0])
        self.assertEqual(derivation(target=self.GOAL, sequence=self.START), derivation(self.START, self.GOAL))
        self.assertIs(check_derivation(value=[0, 1], target=self.GOAL, sequence=self.START), True)

    def test_wrong_sequences(self):
        wrong_values = [(value, None) for value in NOT_LISTS] + [([step] * 41, None) for step in (REMOVE, insert(5))]
        wrong_values += [([wrong, REMOVE], 0) for wrong in NOT_ELEMENTARY]
        wrong_values += [([REMOVE, wrong, wrong], 1) for wrong in NOT_ELEMENTARY]
        for wrong, index in wrong_values:
            self.assert_error(InvalidSequence, "index", index, allowed_exchanges, wrong)
            for call, more in ((derivation, ()), (check_derivation, ([],)), (check_derivation, (HOSTILE,))):
                self.assert_error(InvalidSequence, "index", index, call, wrong, self.GOAL, *more)
                self.assert_error(InvalidSequence, "index", index, call, self.START, wrong, *more)
                self.assert_error(InvalidSequence, "index", index, call, wrong, [REMOVE, REMOVE, HOSTILE], *more)
                self.assert_error(InvalidSequence, "index", 2, call, [REMOVE, REMOVE, HOSTILE], wrong, *more)

    def test_nothing_changes_and_every_list_is_new(self):
        start, goal, value = list(self.START), list(self.GOAL), [0, 1]
        for _ in range(2):
            allowed_exchanges(start).append(5)
            derivation(start, goal).append(5)
            self.assertIs(check_derivation(start, goal, value), True)
            self.assertIs(check_derivation(start, start, [0, 0]), True)
        self.assertEqual((start, goal, value), (self.START, self.GOAL, [0, 1]))
        self.assertEqual(allowed_exchanges(start), [0])
        self.assertTrue(holds(start, goal, derivation(start, goal)))

    def test_results_move_along(self):
        source = random.Random(4)
        for _ in range(30):
            steps = random_steps(source, (1, 2, 4), 8, 0.6)
            target, indexes = walk(source, steps, 6)
            for by in (-5, HUGE):
                far, goal = by_hand.moved_sequence(steps, by), by_hand.moved_sequence(target, by)
                self.assertEqual(allowed_exchanges(far), allowed_exchanges(steps))
                self.assertEqual(derivation(far, goal), derivation(steps, target))
                self.assertIs(check_derivation(far, goal, indexes), True)


if __name__ == "__main__":
    unittest.main()
