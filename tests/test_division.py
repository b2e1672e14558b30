"""Points [2], [3] (c) and (i), [11] and the interface of heapeffects/division.py."""

import random
import unittest

from heapeffects.algebra import compose, power
from heapeffects.division import left_quotient, right_quotient
from heapeffects.effects import Effect
from heapeffects.errors import InvalidEffect
from tests import by_hand
from tests.wrong_values import HOSTILE, NOT_EFFECTS, ErrorCase

HUGE = 10 ** 30
GROWING = Effect.of((("insert", 3, 1), ("insert", 7, 1), ("remove", 1)))
SHRINKING = Effect.of((("remove", 2), ("insert", 9, 1)))
IDENTITY = Effect.identity()


def parts(effect):
    return effect.inserted, effect.removals, effect.survivors


def parts_or_none(effect):
    return None if effect is None else parts(effect)


class SmallEffects(unittest.TestCase):
    """All quotients of small effects, against trying all survivors on sorted lists."""

    def greatest(self, triples):
        """The one of them with the greatest survivors; None of none."""
        if not triples:
            return None
        found = [triple for triple in triples if all(by_hand.greater(triple[2], other[2]) for other in triples)]
        self.assertEqual(len(found), 1, triples)
        return found[0]

    def compare(self, wholes, divisors, candidates):
        """The candidates hold every quotient that there may be."""
        several = 0
        for divisor in divisors:
            after, before = {}, {}
            for candidate in candidates:
                after.setdefault(by_hand.after(divisor, candidate), []).append(candidate)
                before.setdefault(by_hand.after(candidate, divisor), []).append(candidate)
            for whole in wholes:
                for quotient, known in ((right_quotient, after), (left_quotient, before)):
                    found = quotient(Effect(*whole), Effect(*divisor))
                    several += len(known.get(whole, [])) > 1
                    self.assertEqual(parts_or_none(found), self.greatest(known.get(whole, [])),
                                     (quotient.__name__, whole, divisor))
        self.assertGreater(several, 0)

    def test_two_numbers(self):
        triples = list(by_hand.triples((1, 2), 4, 4))
        self.compare(triples, by_hand.triples((1, 2), 3, 3), triples)

    def test_three_numbers(self):
        triples = list(by_hand.triples((1, 2, 3), 3, 3))
        self.compare(triples, by_hand.triples((1, 2, 3), 2, 2), triples)

    def test_four_numbers(self):
        triples = list(by_hand.triples((1, 2, 5, 6), 3, 2))
        self.compare(triples, by_hand.triples((2, 5), 2, 2), triples)

    def test_great_divisors_of_small_wholes(self):
        for whole in by_hand.triples((1, 2), 2, 2):
            for divisor in (Effect((), 3, ()), Effect(((1, 3),), 0, ((1, 3),)), Effect(((3, 1),), 1, ())):
                self.assertIsNone(right_quotient(Effect(*whole), divisor))
                self.assertIsNone(left_quotient(Effect(*whole), divisor))


class GreatEffects(unittest.TestCase):
    def check(self, first, last):
        """Both quotients of a composition are quotients, with survivors that are at least as great."""
        whole = compose(first, last)
        right = right_quotient(whole, first)
        self.assertEqual(compose(first, right), whole)
        self.assertEqual((right.inserted, right.removals), (last.inserted, last.removals))
        self.assertTrue(by_hand.greater(right.survivors, last.survivors))
        left = left_quotient(whole, last)
        self.assertEqual(compose(left, last), whole)
        self.assertEqual((left.inserted, left.removals), (first.inserted, first.removals))
        self.assertTrue(by_hand.greater(left.survivors, first.survivors))
        return right, left

    def test_powers(self):
        for effect in (GROWING, SHRINKING, compose(SHRINKING, GROWING)):
            whole = power(effect, HUGE + 1)
            self.assertEqual(compose(effect, right_quotient(whole, effect)), whole)
            self.assertEqual(compose(left_quotient(whole, effect), effect), whole)
            self.check(power(effect, HUGE), power(effect, HUGE ** 2))
        self.assertEqual(right_quotient(power(GROWING, HUGE), power(GROWING, HUGE - 1)), GROWING)
        self.assertEqual(right_quotient(power(GROWING, HUGE), GROWING), power(GROWING, HUGE - 1))

    def test_compositions(self):
        source = random.Random(1)
        for _ in range(300):
            effects = []
            for _ in range(2):
                program = by_hand.random_program(source, (-3, 1, 2, 8), 4, 2)
                effects.append(Effect.of((("repeat", source.choice((1, 2, HUGE)), program),)))
            right, left = self.check(*effects)
            if effects[0].inserted and right == effects[1]:
                self.assertEqual(right_quotient(compose(*effects).moved(-7), effects[0].moved(-7)), right.moved(-7))

    def test_the_greatest_survivors(self):
        # What runs first leaves HUGE smaller numbers, so nothing tells which of the others survive.
        first = Effect(((1, HUGE),), 0, ((1, HUGE),))
        last = Effect(((2, HUGE), (5, 2)), 3, ((2, HUGE - 1), (5, 2)))
        self.assertEqual(parts(self.check(first, last)[0]), (last.inserted, 3, ((2, HUGE), (5, 2))))
        low = Effect(((2, HUGE), (5, 2)), 3, ((2, HUGE - 3), (5, 2)))
        self.assertEqual(self.check(first, low)[0].survivors, ((2, HUGE), (5, 2)))
        # Where the smaller numbers are all removed, the survivors of the whole are those of the quotient.
        first = Effect(((1, 3),), 0, ((1, 3),))
        self.assertEqual(self.check(first, Effect(((2, 2), (5, 2)), 9, ((5, 2),)))[0].survivors, ((5, 2),))
        # Removals of last hide what is left by first.
        whole = compose(Effect(((5, 3), (6, HUGE)), 2, ((5, 1), (6, HUGE))), Effect((), HUGE, ()))
        found = left_quotient(whole, Effect((), HUGE, ()))
        self.assertEqual(parts(found), (((5, 3), (6, HUGE)), 2, ((5, 3), (6, HUGE - 2))))

    def test_where_there_is_none(self):
        whole = power(GROWING, HUGE)
        for quotient in (right_quotient, left_quotient):
            self.assertIsNone(quotient(whole, power(GROWING, HUGE + 1)))
            self.assertIsNone(quotient(whole, Effect(((4, 1),), 1, ())))
            self.assertIsNone(quotient(whole, Effect((), HUGE + 1, ())))
            self.assertIsNone(quotient(IDENTITY, GROWING))
            self.assertIsNone(quotient(Effect((), HUGE, ()), Effect(((3, 1),), 1, ())))
        # Survivors of last survive the whole.
        self.assertIsNone(left_quotient(whole, Effect(((3, 1),), 0, ((3, 1),))))
        # The first one leaves less than what must be left.
        self.assertIsNone(right_quotient(Effect(((5, HUGE),), HUGE, ((5, HUGE),)), Effect(((5, HUGE),), HUGE, ())))

    def test_the_identity(self):
        for effect in (IDENTITY, GROWING, power(SHRINKING, HUGE)):
            for quotient in (right_quotient, left_quotient):
                self.assertEqual(quotient(effect, IDENTITY), effect)
                self.assertEqual(quotient(effect, effect), IDENTITY)

    def test_many_entries(self):
        first = Effect.of(tuple(("insert", number, 10 ** 99) for number in range(0, 200, 2)) + (("remove", 10 ** 100),))
        last = Effect.of((("remove", 10 ** 100),) + tuple(("insert", number, 10 ** 99) for number in range(1, 200, 2)))
        self.check(first, last)
        self.check(last, first)
        self.check(first, first)

    def test_results_move_along(self):
        source = random.Random(2)
        for _ in range(60):
            effects = [Effect.of(by_hand.random_program(source, (1, 2, 4), 4, 2)) for _ in range(2)]
            whole = compose(*effects)
            for quotient, divisor in ((right_quotient, effects[0]), (left_quotient, effects[1])):
                self.assertEqual(quotient(whole.moved(HUGE), divisor.moved(HUGE)), quotient(whole, divisor).moved(HUGE))


class General(ErrorCase):
    """[2]: names of arguments, wrong arguments, and nothing changes."""

    def test_arguments_by_name(self):
        whole = compose(GROWING, SHRINKING)
        self.assertEqual(right_quotient(first=GROWING, whole=whole), right_quotient(whole, GROWING))
        self.assertEqual(left_quotient(last=SHRINKING, whole=whole), left_quotient(whole, SHRINKING))

    def test_wrong_effects(self):
        for wrong in NOT_EFFECTS:
            for quotient in (right_quotient, left_quotient):
                self.assert_error(InvalidEffect, "part", "effect", quotient, wrong, GROWING)
                self.assert_error(InvalidEffect, "part", "effect", quotient, GROWING, wrong)
                self.assert_error(InvalidEffect, "part", "effect", quotient, IDENTITY, wrong)
                self.assert_error(InvalidEffect, "part", "effect", quotient, wrong, HOSTILE)

    def test_nothing_has_changed(self):
        whole = compose(GROWING, SHRINKING)
        before = parts(whole), parts(GROWING), parts(SHRINKING)
        self.assertEqual(right_quotient(whole, GROWING), right_quotient(whole, GROWING))
        self.assertEqual(left_quotient(whole, SHRINKING), left_quotient(whole, SHRINKING))
        self.assertRaises(InvalidEffect, right_quotient, whole, None)
        self.assertRaises(InvalidEffect, left_quotient, None, whole)
        self.assertEqual((parts(whole), parts(GROWING), parts(SHRINKING)), before)


if __name__ == "__main__":
    unittest.main()
