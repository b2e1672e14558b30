"""Points [2], [3] (c) and (i), [10] and the interface of heapeffects/algebra.py."""

import random
import unittest

from heapeffects.algebra import commute, compose, exponent, power, root
from heapeffects.effects import Effect
from heapeffects.errors import InvalidCount, InvalidEffect
from tests import by_hand
from tests.wrong_values import HOSTILE, NOT_COUNTS, NOT_EFFECTS, ErrorCase

HUGE = 10 ** 30
BODY = (("insert", 3, 1), ("insert", 7, 1), ("remove", 1))
GROWING = Effect.of(BODY)
SHRINKING = Effect.of((("remove", 2), ("insert", 9, 1)))
LEVEL = Effect.of((("insert", 1, 1), ("insert", 9, 2), ("remove", 3), ("insert", 4, 1)))
IDENTITY = Effect.identity()


def parts(effect):
    return effect.inserted, effect.removals, effect.survivors


def random_effects(source, many):
    """Effects of random programs with great counts."""
    effects = []
    for _ in range(many):
        program = by_hand.random_program(source, (-3, 1, 2, 8), 4, 2)
        effects.append(Effect.of((("repeat", source.choice((1, 2, HUGE)), program),)))
    return effects


class Compositions(unittest.TestCase):
    def test_none_and_one(self):
        self.assertEqual(compose(), IDENTITY)
        self.assertIs(type(compose()), Effect)
        self.assertEqual(compose(GROWING), GROWING)
        self.assertEqual(compose(IDENTITY, GROWING, IDENTITY), GROWING)

    def test_small_effects_against_sorted_lists(self):
        triples = list(by_hand.triples((1, 2), 3, 3))
        for first in triples:
            for last in triples:
                self.assertEqual(parts(compose(Effect(*first), Effect(*last))), by_hand.after(first, last))

    def test_several_against_the_joined_program(self):
        source = random.Random(1)
        for _ in range(150):
            programs = [by_hand.random_program(source, (-1, 2, 4), 4, 2) for _ in range(source.randint(0, 6))]
            composition = compose(*[Effect.of(program) for program in programs])
            self.assertEqual(composition, Effect.of(sum(programs, ())))
            steps = [step for program in programs for step in by_hand.steps_of(program)]
            self.assertEqual(parts(composition), by_hand.triple(steps))

    def test_it_does_not_matter_how_they_are_grouped(self):
        effects = random_effects(random.Random(2), 40)
        for first, middle, last in zip(effects, effects[1:], effects[2:]):
            whole = compose(first, middle, last)
            self.assertEqual(compose(compose(first, middle), last), whole)
            self.assertEqual(compose(first, compose(middle, last)), whole)

    def test_great_counts(self):
        whole = compose(power(SHRINKING, HUGE), power(GROWING, HUGE))
        self.assertEqual(whole, Effect.of((("repeat", HUGE, (("remove", 2), ("insert", 9, 1))), ("repeat", HUGE, BODY))))
        self.assertEqual(parts(whole), (((3, HUGE), (7, HUGE), (9, HUGE)), 3 * HUGE, ((7, HUGE), (9, 1))))

    def test_many_effects(self):
        effects = [Effect.of((("insert", number, 10 ** 99), ("remove", 10 ** 98))) for number in range(500)]
        whole = compose(*effects)
        self.assertEqual((whole.removals, whole.needed), (500 * 10 ** 98, 0))
        self.assertEqual(compose(*[GROWING] * 3000), power(GROWING, 3000))


class Powers(unittest.TestCase):
    def test_0_1_and_2(self):
        for effect in (IDENTITY, GROWING, SHRINKING, LEVEL):
            self.assertEqual(power(effect, 0), IDENTITY)
            self.assertEqual(power(effect, 1), effect)
            self.assertEqual(power(effect, 2), compose(effect, effect))
            self.assertIs(type(power(effect, 0)), Effect)

    def test_small_effects_against_sorted_lists(self):
        for triple in by_hand.triples((1, 2, 3), 3, 3):
            for count in range(5):
                self.assertEqual(parts(power(Effect(*triple), count)), by_hand.triple(by_hand.normal(triple) * count))

    def test_great_powers(self):
        self.assertEqual(parts(power(GROWING, HUGE)), (((3, HUGE), (7, HUGE)), HUGE, ((7, HUGE),)))
        self.assertEqual(parts(power(SHRINKING, HUGE)), (((9, HUGE),), 2 * HUGE, ((9, 1),)))
        self.assertEqual(power(IDENTITY, HUGE), IDENTITY)
        for effect in (GROWING, SHRINKING, LEVEL):
            self.assertEqual(power(effect, HUGE), Effect.of((("repeat", HUGE, effect.normal()),)))
            self.assertEqual(power(power(effect, HUGE), HUGE), power(effect, HUGE ** 2))
            self.assertEqual(compose(power(effect, HUGE), effect), power(effect, HUGE + 1))
            self.assertEqual(compose(power(effect, 2), power(effect, HUGE)), power(effect, HUGE + 2))


class Commuting(unittest.TestCase):
    def test_small_effects_against_sorted_lists(self):
        triples = list(by_hand.triples((1, 2), 3, 3)) + list(by_hand.triples((1, 2, 3), 2, 2))
        seen = set()
        for first in triples:
            for second in triples:
                expected = by_hand.after(first, second) == by_hand.after(second, first)
                seen.add(expected)
                self.assertIs(commute(Effect(*first), Effect(*second)), expected)
        self.assertEqual(seen, {True, False})

    def test_great_effects(self):
        for effect in random_effects(random.Random(3), 20):
            self.assertIs(commute(power(effect, HUGE), power(effect, HUGE + 1)), True)
            self.assertIs(commute(effect, IDENTITY), True)
            for other in (GROWING, SHRINKING):
                expected = compose(effect, other) == compose(other, effect)
                self.assertIs(commute(effect, other), expected)
                self.assertIs(commute(other, effect), expected)
        self.assertIs(commute(power(SHRINKING, HUGE), GROWING), False)


class Roots(unittest.TestCase):
    def compare(self, values, largest):
        """Try all candidates for the roots of all effects with up to so many insertions and removals."""
        triples = list(by_hand.triples(values, largest, largest))
        for count in range(1, largest + 2):
            found = {}
            for candidate in by_hand.triples(values, largest // count, largest // count):
                whole = by_hand.triple(by_hand.normal(candidate) * count)
                # [3] (c): a root is the only one.
                self.assertNotIn(whole, found)
                found[whole] = candidate
            for triple in triples:
                expected = found.get(triple)
                result = root(Effect(*triple), count)
                self.assertEqual(None if result is None else parts(result), expected, (triple, count))
            self.assertTrue(all(whole in triples for whole in found))

    def test_small_effects_against_all_candidates(self):
        self.compare((1, 2), 6)
        self.compare((1, 2, 4), 4)

    def test_great_powers_back_to_the_base(self):
        for effect in random_effects(random.Random(4), 40):
            for count in (1, 2, 3, HUGE):
                self.assertEqual(root(power(effect, count), count), effect)
                self.assertEqual(root(power(effect, HUGE * count), HUGE), power(effect, count))

    def test_the_identity(self):
        for count in (1, 2, HUGE):
            self.assertEqual(root(IDENTITY, count), IDENTITY)

    def test_where_there_is_none(self):
        whole = power(GROWING, HUGE)
        self.assertIsNone(root(GROWING, HUGE))
        self.assertIsNone(root(whole, 3))
        self.assertIsNone(root(compose(whole, Effect((), 2, ())), 3))
        # Every part can be divided, but this bag is left by no power.
        self.assertIsNone(root(Effect(whole.inserted, HUGE, ((3, HUGE),)), 2))
        self.assertIsNone(root(Effect(whole.inserted, HUGE, ((3, HUGE // 2 + 1), (7, HUGE // 2 - 1))), 2))
        self.assertIsNotNone(root(Effect(whole.inserted, HUGE, ((3, HUGE // 2), (7, HUGE // 2))), 2))
        self.assertIsNone(root(Effect(((5, 2),), 4, ((5, 2),)), 2))
        self.assertIsNone(root(Effect(((5, 2 * HUGE),), HUGE, ((5, HUGE + 2),)), HUGE))
        self.assertIsNotNone(root(Effect(((5, 2 * HUGE),), HUGE, ((5, HUGE + 1),)), HUGE))

    def test_roots_move_along(self):
        for effect in random_effects(random.Random(5), 20):
            for count in (1, 2, 3):
                for whole in (effect, power(effect, count)):
                    found = root(whole, count)
                    expected = None if found is None else found.moved(-9)
                    self.assertEqual(root(whole.moved(-9), count), expected)


class Exponents(unittest.TestCase):
    def compare(self, values, largest_base, largest):
        triples = list(by_hand.triples(values, largest, largest))
        for base in by_hand.triples(values, largest_base, largest_base):
            counts = {}
            for count in range(2 * largest + 1):
                counts.setdefault(by_hand.triple(by_hand.normal(base) * count), count)
            for triple in triples:
                self.assertEqual(exponent(Effect(*triple), Effect(*base)), counts.get(triple), (triple, base))

    def test_small_effects_against_all_counts(self):
        self.compare((1, 2), 2, 4)
        self.compare((1, 2), 3, 3)
        self.compare((1, 2, 3), 1, 3)

    def test_great_powers(self):
        for effect in random_effects(random.Random(6), 40):
            for count in (0, 1, 2, HUGE, HUGE ** 3):
                expected = 0 if effect == IDENTITY else count
                self.assertEqual(exponent(power(effect, count), effect), expected)
                self.assertEqual(exponent(power(effect, 7 * count), power(effect, 7)), expected)

    def test_the_identity(self):
        self.assertEqual(exponent(IDENTITY, IDENTITY), 0)
        self.assertEqual(exponent(IDENTITY, GROWING), 0)
        self.assertIsNone(exponent(GROWING, IDENTITY))

    def test_where_there_is_none(self):
        whole = power(GROWING, HUGE)
        self.assertIsNone(exponent(GROWING, whole))
        self.assertIsNone(exponent(power(GROWING, HUGE + 1), power(GROWING, 2)))
        self.assertIsNone(exponent(whole, SHRINKING))
        self.assertIsNone(exponent(Effect(whole.inserted, HUGE, ((3, 1), (7, HUGE - 1))), GROWING))
        self.assertIsNone(exponent(Effect(whole.inserted, HUGE + 1, whole.survivors), GROWING))
        self.assertIsNone(exponent(Effect((), HUGE, ()), GROWING))
        self.assertEqual(exponent(Effect((), HUGE, ()), Effect((), 1, ())), HUGE)
        self.assertEqual(exponent(Effect(((5, HUGE),), 0, ((5, HUGE),)), Effect(((5, 1),), 0, ((5, 1),))), HUGE)

    def test_exponents_stay_when_numbers_move(self):
        for effect in random_effects(random.Random(7), 20):
            for whole in (GROWING, power(effect, HUGE)):
                self.assertEqual(exponent(whole.moved(4), effect.moved(4)), exponent(whole, effect))


class General(ErrorCase):
    """[2]: names of arguments, wrong arguments, and nothing changes."""

    def test_arguments_by_name(self):
        whole = power(count=6, effect=GROWING)
        self.assertEqual(whole, power(GROWING, 6))
        self.assertEqual(root(count=3, effect=whole), power(GROWING, 2))
        self.assertEqual(exponent(base=GROWING, effect=whole), 6)
        self.assertIs(commute(second=SHRINKING, first=GROWING), commute(GROWING, SHRINKING))

    def test_wrong_effects(self):
        for wrong in NOT_EFFECTS:
            self.assert_error(InvalidEffect, "part", "effect", compose, wrong)
            self.assert_error(InvalidEffect, "part", "effect", compose, GROWING, wrong, GROWING)
            self.assert_error(InvalidEffect, "part", "effect", power, wrong, 2)
            self.assert_error(InvalidEffect, "part", "effect", commute, wrong, GROWING)
            self.assert_error(InvalidEffect, "part", "effect", commute, GROWING, wrong)
            self.assert_error(InvalidEffect, "part", "effect", root, wrong, 2)
            self.assert_error(InvalidEffect, "part", "effect", exponent, wrong, GROWING)
            self.assert_error(InvalidEffect, "part", "effect", exponent, GROWING, wrong)
            self.assert_error(InvalidEffect, "part", "effect", exponent, IDENTITY, wrong)

    def test_wrong_counts(self):
        for wrong in NOT_COUNTS:
            for effect in (GROWING, IDENTITY):
                self.assert_error(InvalidCount, "value", wrong, power, effect, wrong)
                self.assert_error(InvalidCount, "value", wrong, root, effect, wrong)
        self.assert_error(InvalidCount, "value", 0, root, GROWING, 0)
        self.assert_error(InvalidCount, "value", 0, root, IDENTITY, 0)

    def test_several_wrong_arguments(self):
        for wrong in NOT_COUNTS:
            self.assert_error(InvalidEffect, "part", "effect", power, HOSTILE, wrong)
            self.assert_error(InvalidEffect, "part", "effect", root, None, wrong)
        self.assert_error(InvalidEffect, "part", "effect", root, None, 0)
        self.assert_error(InvalidEffect, "part", "effect", compose, None, HOSTILE)
        self.assert_error(InvalidEffect, "part", "effect", commute, None, HOSTILE)
        self.assert_error(InvalidEffect, "part", "effect", exponent, None, HOSTILE)

    def test_nothing_has_changed(self):
        before = parts(GROWING), parts(SHRINKING), parts(IDENTITY)
        for call in (lambda: compose(GROWING, SHRINKING), lambda: power(GROWING, 5), lambda: root(GROWING, 1),
                     lambda: commute(GROWING, SHRINKING), lambda: exponent(GROWING, SHRINKING)):
            self.assertEqual(call(), call())
        for call in (lambda: compose(GROWING, None), lambda: power(GROWING, -1), lambda: root(GROWING, 0)):
            self.assertRaises(ValueError, call)
        self.assertEqual((parts(GROWING), parts(SHRINKING), parts(IDENTITY)), before)


if __name__ == "__main__":
    unittest.main()
