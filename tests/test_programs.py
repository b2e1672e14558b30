"""Points [2], [5] and the interface of heapeffects/programs.py."""

import random
import unittest

from heapeffects.errors import InvalidCount, InvalidProgram, LimitExceeded, OutOfRange
from heapeffects.programs import (
    check_program, expand, insertion_count, prefix, removal_count, step_at, step_count, suffix,
)
from tests import by_hand
from tests.wrong_values import GOOD, HOSTILE, NOT_COUNTS, NOT_INDEXES, NOT_PROGRAMS, NOT_STEPS, ErrorCase

HUGE = 10 ** 30
BODY = (("insert", 3, 1), ("insert", 7, 1), ("remove", 1))
LONG = (("repeat", HUGE, BODY),)

ORDINARY = (
    (),
    (("insert", 5, 2), ("remove", 1)),
    (("insert", -5, 0), ("remove", 0)),
    (("repeat", 0, BODY), ("insert", 1, 2), ("repeat", 3, ())),
    (("repeat", 3, BODY), ("remove", 2)),
    (("repeat", 2, (("remove", 1), ("repeat", 3, (("insert", 4, 2), ("remove", 1))), ("insert", 6, 1))),),
    by_hand.nested(8, count=2),
)

# Programs whose elementary steps are few or none, although they have great counts.
IDLE = (
    (("repeat", HUGE, ()),),
    (("repeat", HUGE, (("repeat", HUGE, ()), ("insert", 5, 0), ("remove", 0))),),
    (("repeat", 0, (("insert", 5, HUGE), ("remove", HUGE))),),
    (("repeat", HUGE, (("repeat", 0, (("repeat", HUGE, BODY),)),)),),
    by_hand.nested(8, (), HUGE),
)


def programs():
    source = random.Random(5)
    made = [by_hand.random_program(source, (1, 2, 5), 4, 3) for _ in range(150)]
    return [*ORDINARY, *[program for program in made if len(by_hand.steps_of(program)) <= 60]]


class CheckProgram(ErrorCase):
    def test_programs(self):
        for program in [*programs(), *IDLE, LONG, (("insert", -10 ** 99, 10 ** 99),)]:
            self.assertIsNone(check_program(program))

    def test_five_hundred_steps(self):
        self.assertIsNone(check_program(BODY * 166 + (("remove", 1), ("remove", 1))))

    def test_not_a_tuple(self):
        for program, path in NOT_PROGRAMS:
            self.assert_error(InvalidProgram, "path", path, check_program, program)

    def test_wrong_steps(self):
        for wrong in NOT_STEPS:
            for program, path in (
                ((wrong,), (0,)),
                ((GOOD, ("remove", 1), wrong, GOOD), (2,)),
                ((GOOD, wrong, None, wrong), (1,)),
                ((("repeat", 2, (GOOD, wrong)),), (0, 1)),
                ((GOOD, ("repeat", 0, (GOOD, ("repeat", 3, (wrong, None)), None)), None), (1, 1, 0)),
                ((("repeat", 2, (GOOD,)), wrong), (1,)),
            ):
                self.assert_error(InvalidProgram, "path", path, check_program, program)

    def test_the_steps_within_a_repeat_come_before_the_step_after_it(self):
        program = (GOOD, ("repeat", 1, (GOOD, ("repeat", 1, (None,)), None)), None)
        self.assert_error(InvalidProgram, "path", (1, 1, 0), check_program, program)

    def test_a_step_before_a_repeat_comes_before_the_steps_within(self):
        self.assert_error(InvalidProgram, "path", (0,), check_program, (None, ("repeat", 1, (None,))))

    def test_a_repeat_with_a_wrong_count_is_itself_the_wrong_step(self):
        self.assert_error(InvalidProgram, "path", (1,), check_program, (GOOD, ("repeat", -1, (None,))))
        self.assert_error(InvalidProgram, "path", (0, 0), check_program, (("repeat", 1, (("repeat", True, (None,)),)),))

    def test_eight_deep_and_nine_deep(self):
        self.assertIsNone(check_program(by_hand.nested(8)))
        self.assert_error(InvalidProgram, "path", (0,) * 8, check_program, by_hand.nested(9))
        self.assert_error(InvalidProgram, "path", (0,) * 8, check_program, by_hand.nested(9, ()))
        self.assert_error(InvalidProgram, "path", (0,) * 8, check_program, by_hand.nested(9, (None,)))
        self.assert_error(InvalidProgram, "path", (0,) * 8, check_program, by_hand.nested(12))

    def test_a_repeat_among_the_steps_of_the_eighth_program(self):
        program = by_hand.nested(8, (GOOD, ("remove", 1), ("repeat", 0, ()), None))
        self.assert_error(InvalidProgram, "path", (0,) * 7 + (2,), check_program, program)
        program = by_hand.nested(8, (GOOD, None, ("repeat", 0, ())))
        self.assert_error(InvalidProgram, "path", (0,) * 7 + (1,), check_program, program)

    def test_depth_is_counted_anew_beside_a_deep_repeat(self):
        deep = by_hand.nested(8)
        self.assertIsNone(check_program(deep + deep + (GOOD,)))
        self.assert_error(InvalidProgram, "path", (1,) + (0,) * 7, check_program, deep + by_hand.nested(9))


class Counts(ErrorCase):
    def test_compared_with_the_steps(self):
        for program in programs():
            steps = by_hand.steps_of(program)
            insertions = [step for step in steps if step[0] == "insert"]
            self.assertEqual(step_count(program), len(steps))
            self.assertEqual(insertion_count(program), len(insertions))
            self.assertEqual(removal_count(program), len(steps) - len(insertions))

    def test_great_counts(self):
        self.assertEqual((step_count(LONG), insertion_count(LONG), removal_count(LONG)), (3 * HUGE, 2 * HUGE, HUGE))
        program = by_hand.nested(8, (("insert", 1, 10 ** 99), ("remove", 2)), 10 ** 99)
        self.assertEqual(insertion_count(program), 10 ** 792)
        self.assertEqual(removal_count(program), 2 * 10 ** 693)
        self.assertEqual(step_count(program), 10 ** 792 + 2 * 10 ** 693)

    def test_no_steps(self):
        for program in ((), *IDLE):
            self.assertEqual((step_count(program), insertion_count(program), removal_count(program)), (0, 0, 0))

    def test_wrong_programs(self):
        for function in (step_count, insertion_count, removal_count):
            for program, path in NOT_PROGRAMS:
                self.assert_error(InvalidProgram, "path", path, function, program)
            self.assert_error(InvalidProgram, "path", (0,) * 8, function, by_hand.nested(9))


class Expand(ErrorCase):
    def test_compared_with_the_steps(self):
        for program in programs():
            self.assertEqual(expand(program), by_hand.steps_of(program))

    def test_idle_repeats_take_no_time(self):
        for program in IDLE:
            self.assertEqual(expand(program), [])
            self.assertEqual(expand(program, limit=0), [])
            self.assertEqual(expand(program + (GOOD,) + program, limit=1), [GOOD])

    def test_idle_repeats_within_a_long_loop_take_no_time(self):
        idle = (("repeat", HUGE, ()),) * 400
        self.assertEqual(expand((("repeat", 10 ** 6, (GOOD,) + idle),), limit=10 ** 6), [GOOD] * 10 ** 6)

    def test_the_limit_is_a_thousand(self):
        self.assertEqual(expand((("repeat", 500, (GOOD, ("remove", 1))),)), [GOOD, ("remove", 1)] * 500)
        self.assert_error(LimitExceeded, "count", 1001, expand, (("insert", 5, 1000), ("remove", 1)))

    def test_a_limit_just_reached_and_just_passed(self):
        self.assertEqual(expand((("insert", 5, 3),), limit=3), [GOOD] * 3)
        self.assert_error(LimitExceeded, "count", 3, expand, (("insert", 5, 3),), limit=2)
        self.assertEqual(expand((), limit=0), [])
        self.assert_error(LimitExceeded, "count", 1, expand, (("remove", 1),), limit=0)

    def test_great_lengths(self):
        self.assert_error(LimitExceeded, "count", 3 * HUGE, expand, LONG)
        self.assert_error(LimitExceeded, "count", 3 * HUGE, expand, LONG, limit=10 ** 6)

    def test_each_list_is_new(self):
        program = (("insert", 5, 2),)
        expand(program).clear()
        self.assertEqual(expand(program), [GOOD, GOOD])

    def test_the_limit_is_given_by_name(self):
        self.assertRaises(TypeError, expand, (), 5)

    def test_wrong_arguments(self):
        for program, path in NOT_PROGRAMS:
            self.assert_error(InvalidProgram, "path", path, expand, program)
            self.assert_error(InvalidProgram, "path", path, expand, program, limit=-1)
        for wrong in NOT_COUNTS:
            self.assert_error(InvalidCount, "value", wrong, expand, (GOOD,), limit=wrong)
            self.assert_error(InvalidCount, "value", wrong, expand, LONG, limit=wrong)


class StepAt(ErrorCase):
    def test_every_index(self):
        for program in programs():
            steps = by_hand.steps_of(program)
            self.assertEqual([step_at(program, index) for index in range(len(steps))], steps)
            self.assert_error(OutOfRange, "value", len(steps), step_at, program, len(steps))
            self.assert_error(OutOfRange, "value", -1, step_at, program, -1)

    def test_a_long_loop(self):
        for turn in (0, 1, HUGE // 2, HUGE - 1):
            self.assertEqual([step_at(LONG, 3 * turn + place) for place in range(3)], list(BODY))
        self.assert_error(OutOfRange, "value", 3 * HUGE, step_at, LONG, 3 * HUGE)

    def test_idle_repeats(self):
        for program in IDLE:
            self.assert_error(OutOfRange, "value", 0, step_at, program, 0)
            self.assertEqual(step_at(program + (GOOD,) + program, 0), GOOD)
            self.assert_error(OutOfRange, "value", 1, step_at, program + (GOOD,) + program, 1)

    def test_deep_loops(self):
        program = by_hand.nested(8, (("insert", 1, HUGE), ("remove", 1)), HUGE)
        length = HUGE ** 7 * (HUGE + 1)
        self.assertEqual(step_at(program, length - 1), ("remove", 1))
        self.assertEqual(step_at(program, length - 2), ("insert", 1, 1))
        self.assert_error(OutOfRange, "value", length, step_at, program, length)

    def test_wrong_arguments(self):
        for program, path in NOT_PROGRAMS:
            self.assert_error(InvalidProgram, "path", path, step_at, program, 0)
            self.assert_error(InvalidProgram, "path", path, step_at, program, None)
        for wrong in NOT_INDEXES:
            self.assert_error(OutOfRange, "value", wrong, step_at, LONG, wrong)
            self.assert_error(OutOfRange, "value", wrong, step_at, (), wrong)


class PrefixAndSuffix(ErrorCase):
    def test_every_index(self):
        for program in programs():
            steps = by_hand.steps_of(program)
            for index in range(len(steps) + 1):
                before, after = prefix(program, index), suffix(program, index)
                self.assertIsNone(check_program(before))
                self.assertIsNone(check_program(after))
                self.assertEqual(by_hand.steps_of(before), steps[:index])
                self.assertEqual(by_hand.steps_of(after), steps[index:])

    def test_just_past_the_last_index(self):
        for function in (prefix, suffix):
            for program in programs():
                length = len(by_hand.steps_of(program))
                self.assert_error(OutOfRange, "value", length + 1, function, program, length + 1)
                self.assert_error(OutOfRange, "value", -1, function, program, -1)
            self.assert_error(OutOfRange, "value", 3 * HUGE + 1, function, LONG, 3 * HUGE + 1)

    def test_a_long_loop(self):
        for index in (0, 1, 3, 4, HUGE, 3 * HUGE - 4, 3 * HUGE - 1, 3 * HUGE):
            before, after = prefix(LONG, index), suffix(LONG, index)
            self.assertEqual((step_count(before), step_count(after)), (index, 3 * HUGE - index))
            for place in range(min(index, 5)):
                self.assertEqual(step_at(before, index - 1 - place), step_at(LONG, index - 1 - place))
            for place in range(min(3 * HUGE - index, 5)):
                self.assertEqual(step_at(after, place), step_at(LONG, index + place))

    def test_deep_loops_stay_programs(self):
        program = by_hand.nested(8, (("insert", 1, HUGE), ("remove", 2)), HUGE)
        length = HUGE ** 7 * (HUGE + 2)
        for index in (1, HUGE + 1, length // 2, length // 3, length - HUGE, length - 1):
            before, after = prefix(program, index), suffix(program, index)
            self.assertEqual((step_count(before), step_count(after)), (index, length - index))
            self.assertEqual(insertion_count(before) + insertion_count(after), insertion_count(program))
            self.assertEqual(step_at(before, index - 1), step_at(program, index - 1))
            self.assertEqual(step_at(after, 0), step_at(program, index))

    def test_idle_repeats(self):
        for program in IDLE:
            self.assertEqual(step_count(prefix(program, 0)), 0)
            self.assertEqual(step_count(suffix(program, 0)), 0)
            for index in (0, 1):
                together = program + (GOOD,) + program
                self.assertEqual(expand(prefix(together, index)), [GOOD] * index)
                self.assertEqual(expand(suffix(together, index)), [GOOD] * (1 - index))

    def test_wrong_arguments(self):
        for function in (prefix, suffix):
            for program, path in NOT_PROGRAMS:
                self.assert_error(InvalidProgram, "path", path, function, program, 0)
                self.assert_error(InvalidProgram, "path", path, function, program, None)
            for wrong in NOT_INDEXES:
                self.assert_error(OutOfRange, "value", wrong, function, LONG, wrong)
                self.assert_error(OutOfRange, "value", wrong, function, (), wrong)


class Names(unittest.TestCase):
    def test_arguments_by_name(self):
        program = (("insert", 5, 2), ("remove", 1))
        self.assertIsNone(check_program(program=program))
        self.assertEqual(step_count(program=program), 3)
        self.assertEqual(insertion_count(program=program), 2)
        self.assertEqual(removal_count(program=program), 1)
        self.assertEqual(expand(limit=3, program=program), [GOOD, GOOD, ("remove", 1)])
        self.assertEqual(step_at(index=2, program=program), ("remove", 1))
        self.assertEqual(by_hand.steps_of(prefix(index=1, program=program)), [GOOD])
        self.assertEqual(by_hand.steps_of(suffix(index=1, program=program)), [GOOD, ("remove", 1)])

    def test_any_value_as_an_index(self):
        self.assert_out_of_range(HOSTILE)
        self.assert_out_of_range(10 ** 5000)

    def assert_out_of_range(self, value):
        for function in (step_at, prefix, suffix):
            with self.assertRaises(OutOfRange) as caught:
                function(LONG, value)
            self.assertIs(caught.exception.value, value)


if __name__ == "__main__":
    unittest.main()
