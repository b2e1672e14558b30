"""Points [2], [4] and the interface of heapeffects/bags.py."""

import itertools
import unittest

from heapeffects.bags import (
    at_most, bag_of, contains, difference, is_bag, numbers_in, size_of, smallest, times, union, without_smallest,
)
from heapeffects.errors import InvalidBag, InvalidCount, InvalidNumber, LimitExceeded
from tests import by_hand
from tests.wrong_values import HOSTILE, NOT_BAGS, NOT_COUNTS, NOT_NUMBERS, ErrorCase

HUGE = 10 ** 30
GREAT = ((-HUGE, HUGE), (0, 1), (HUGE, 3 * HUGE))
SMALL = list(by_hand.bags((-1, 0, 2), 4))


class IsBag(unittest.TestCase):
    def test_bags(self):
        for value in [(), ((0, 1),), ((-3, 2), (-1, 1), (0, 5)), GREAT, ((10 ** 99, 10 ** 99),), *SMALL]:
            self.assertIs(is_bag(value), True)

    def test_a_hundred_entries(self):
        self.assertIs(is_bag(tuple((number, 1) for number in range(100))), True)

    def test_other_values(self):
        for value in NOT_BAGS:
            with self.subTest(repr(value)):
                self.assertIs(is_bag(value), False)


class BagOf(ErrorCase):
    def test_any_order_with_duplicates(self):
        for numbers in itertools.product((-1, 0, 2), repeat=4):
            self.assertEqual(bag_of(list(numbers)), by_hand.bag(numbers))

    def test_the_empty_list(self):
        self.assertEqual(bag_of([]), ())

    def test_the_list_stays_as_it_is_and_may_change_later(self):
        numbers = [5, 2, 5]
        bag = bag_of(numbers)
        self.assertEqual(numbers, [5, 2, 5])
        numbers.append(7)
        self.assertEqual(bag, ((2, 1), (5, 2)))

    def test_not_a_list(self):
        for value in [None, True, 5, "", "5", (), (5,), {}, {5}, range(3), HOSTILE]:
            self.assert_error(InvalidNumber, "value", value, bag_of, value)

    def test_the_first_item_that_is_not_a_number(self):
        for wrong in NOT_NUMBERS:
            self.assert_error(InvalidNumber, "value", wrong, bag_of, [wrong])
            self.assert_error(InvalidNumber, "value", wrong, bag_of, [1, wrong, None, 2])

    def test_the_list_stays_as_it_is_after_an_error(self):
        numbers = [5, 2, None, 5]
        self.assert_error(InvalidNumber, "value", None, bag_of, numbers)
        self.assertEqual(numbers, [5, 2, None, 5])


class NumbersIn(ErrorCase):
    def test_ascending(self):
        for bag in SMALL:
            self.assertEqual(numbers_in(bag), by_hand.numbers(bag))
            self.assertEqual(bag_of(numbers_in(bag)), bag)

    def test_each_list_is_new(self):
        bag = ((2, 1), (5, 2))
        first = numbers_in(bag)
        first.append(9)
        self.assertEqual(numbers_in(bag), [2, 5, 5])

    def test_the_limit_is_a_thousand(self):
        self.assertEqual(numbers_in(((2, 999), (3, 1))), [2] * 999 + [3])
        self.assert_error(LimitExceeded, "count", 1001, numbers_in, ((2, 1000), (3, 1)))

    def test_a_limit_just_reached_and_just_passed(self):
        self.assertEqual(numbers_in(((2, 1), (5, 2)), limit=3), [2, 5, 5])
        self.assert_error(LimitExceeded, "count", 3, numbers_in, ((2, 1), (5, 2)), limit=2)
        self.assertEqual(numbers_in((), limit=0), [])
        self.assert_error(LimitExceeded, "count", 1, numbers_in, ((2, 1),), limit=0)
        self.assertEqual(len(numbers_in(((2, 10 ** 6),), limit=10 ** 6)), 10 ** 6)

    def test_a_great_bag(self):
        self.assert_error(LimitExceeded, "count", 4 * HUGE + 1, numbers_in, GREAT)

    def test_the_limit_is_given_by_name(self):
        self.assertRaises(TypeError, numbers_in, (), 5)

    def test_wrong_arguments(self):
        for wrong in NOT_BAGS:
            self.assert_error(InvalidBag, "value", wrong, numbers_in, wrong)
            self.assert_error(InvalidBag, "value", wrong, numbers_in, wrong, limit=None)
        for wrong in NOT_COUNTS:
            self.assert_error(InvalidCount, "value", wrong, numbers_in, GREAT, limit=wrong)


class Sizes(ErrorCase):
    def test_size_of(self):
        for bag in SMALL:
            self.assertEqual(size_of(bag), len(by_hand.numbers(bag)))
        self.assertEqual(size_of(()), 0)
        self.assertEqual(size_of(GREAT), 4 * HUGE + 1)

    def test_at_most(self):
        for bag in SMALL:
            for number in range(-2, 4):
                self.assertEqual(at_most(bag, number), len([n for n in by_hand.numbers(bag) if n <= number]))
        self.assertEqual(at_most((), 5), 0)
        self.assertEqual([at_most(GREAT, number) for number in (-HUGE - 1, -HUGE, HUGE - 1, HUGE)],
                         [0, HUGE, HUGE + 1, 4 * HUGE + 1])

    def test_wrong_arguments(self):
        for wrong in NOT_BAGS:
            self.assert_error(InvalidBag, "value", wrong, size_of, wrong)
            self.assert_error(InvalidBag, "value", wrong, at_most, wrong, 5)
            self.assert_error(InvalidBag, "value", wrong, at_most, wrong, None)
        for wrong in NOT_NUMBERS:
            self.assert_error(InvalidNumber, "value", wrong, at_most, ((5, 1),), wrong)
            self.assert_error(InvalidNumber, "value", wrong, at_most, (), wrong)


class Union(ErrorCase):
    def test_of_two_and_three(self):
        for first, last in itertools.product(SMALL, repeat=2):
            together = by_hand.numbers(first) + by_hand.numbers(last)
            self.assertEqual(union(first, last), by_hand.bag(together))
            self.assertEqual(union(first, last, first), by_hand.bag(together + by_hand.numbers(first)))

    def test_of_none_and_one(self):
        self.assertEqual(union(), ())
        self.assertEqual(union(()), ())
        self.assertEqual(union(GREAT), GREAT)

    def test_great_bags(self):
        self.assertEqual(union(GREAT, ((0, HUGE),), ()), ((-HUGE, HUGE), (0, HUGE + 1), (HUGE, 3 * HUGE)))

    def test_the_first_that_is_not_a_bag(self):
        for wrong in NOT_BAGS:
            self.assert_error(InvalidBag, "value", wrong, union, wrong)
            self.assert_error(InvalidBag, "value", wrong, union, GREAT, (), wrong)
            self.assert_error(InvalidBag, "value", wrong, union, (), wrong, "later", ())


class Times(ErrorCase):
    def test_small_counts(self):
        for bag in SMALL:
            for count in range(4):
                self.assertEqual(times(bag, count), by_hand.bag(by_hand.numbers(bag) * count))

    def test_great_counts(self):
        self.assertEqual(times(((-2, 1), (5, 3)), HUGE), ((-2, HUGE), (5, 3 * HUGE)))
        self.assertEqual(times((), HUGE), ())
        self.assertEqual(times(GREAT, 0), ())
        self.assertEqual(times(GREAT, 1), GREAT)

    def test_wrong_arguments(self):
        for wrong in NOT_BAGS:
            self.assert_error(InvalidBag, "value", wrong, times, wrong, 2)
            self.assert_error(InvalidBag, "value", wrong, times, wrong, -1)
        for wrong in NOT_COUNTS:
            self.assert_error(InvalidCount, "value", wrong, times, ((5, 1),), wrong)
            self.assert_error(InvalidCount, "value", wrong, times, (), wrong)


class Differences(ErrorCase):
    def test_contains_and_difference(self):
        for bag, other in itertools.product(SMALL, repeat=2):
            left = by_hand.numbers(bag)
            for number in by_hand.numbers(other):
                if left is not None:
                    left = [*left[:left.index(number)], *left[left.index(number) + 1:]] if number in left else None
            self.assertIs(contains(bag, other), left is not None)
            self.assertEqual(difference(bag, other), None if left is None else by_hand.bag(left))

    def test_the_empty_bag(self):
        self.assertEqual((difference((), ()), contains((), ())), ((), True))
        self.assertEqual((difference((), ((5, 1),)), contains((), ((5, 1),))), (None, False))
        self.assertEqual((difference(GREAT, ()), difference(GREAT, GREAT)), (GREAT, ()))

    def test_great_bags(self):
        self.assertEqual(difference(GREAT, ((HUGE, 3 * HUGE - 1),)), ((-HUGE, HUGE), (0, 1), (HUGE, 1)))
        self.assertEqual(difference(GREAT, ((HUGE, 3 * HUGE),)), ((-HUGE, HUGE), (0, 1)))
        self.assertIsNone(difference(GREAT, ((HUGE, 3 * HUGE + 1),)))
        self.assertIs(contains(GREAT, ((0, 2),)), False)
        self.assertIs(contains(GREAT, ((1, 1),)), False)

    def test_wrong_arguments(self):
        for function in (contains, difference):
            for wrong in NOT_BAGS:
                self.assert_error(InvalidBag, "value", wrong, function, wrong, ())
                self.assert_error(InvalidBag, "value", wrong, function, wrong, "later")
                self.assert_error(InvalidBag, "value", wrong, function, ((5, 1),), wrong)
                self.assert_error(InvalidBag, "value", wrong, function, (), wrong)


class Smallest(ErrorCase):
    def test_all_small_bags(self):
        for bag in SMALL:
            numbers = by_hand.numbers(bag)
            for count in range(len(numbers) + 3):
                self.assertEqual(smallest(bag, count), by_hand.bag(numbers[:count]))
                self.assertEqual(without_smallest(bag, count), by_hand.bag(numbers[count:]))

    def test_great_bags(self):
        self.assertEqual(smallest(GREAT, HUGE + 2), ((-HUGE, HUGE), (0, 1), (HUGE, 1)))
        self.assertEqual(without_smallest(GREAT, HUGE + 2), ((HUGE, 3 * HUGE - 1),))
        self.assertEqual((smallest(GREAT, 0), without_smallest(GREAT, 0)), ((), GREAT))
        for count in (4 * HUGE + 1, 4 * HUGE + 2, 10 ** 99):
            self.assertEqual((smallest(GREAT, count), without_smallest(GREAT, count)), (GREAT, ()))
        self.assertEqual((smallest((), HUGE), without_smallest((), HUGE)), ((), ()))

    def test_wrong_arguments(self):
        for function in (smallest, without_smallest):
            for wrong in NOT_BAGS:
                self.assert_error(InvalidBag, "value", wrong, function, wrong, 1)
                self.assert_error(InvalidBag, "value", wrong, function, wrong, -1)
            for wrong in NOT_COUNTS:
                self.assert_error(InvalidCount, "value", wrong, function, ((5, 1),), wrong)
                self.assert_error(InvalidCount, "value", wrong, function, (), wrong)


class Names(unittest.TestCase):
    def test_arguments_by_name(self):
        bag = ((2, 1), (5, 2))
        self.assertIs(is_bag(value=bag), True)
        self.assertEqual(bag_of(numbers=[5, 2, 5]), bag)
        self.assertEqual(numbers_in(limit=3, bag=bag), [2, 5, 5])
        self.assertEqual(size_of(bag=bag), 3)
        self.assertEqual(at_most(number=4, bag=bag), 1)
        self.assertEqual(times(count=2, bag=bag), ((2, 2), (5, 4)))
        self.assertIs(contains(other=((5, 3),), bag=bag), False)
        self.assertEqual(difference(other=((5, 2),), bag=bag), ((2, 1),))
        self.assertEqual(smallest(count=2, bag=bag), ((2, 1), (5, 1)))
        self.assertEqual(without_smallest(count=2, bag=bag), ((5, 1),))


if __name__ == "__main__":
    unittest.main()
