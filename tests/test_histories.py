"""Points [2], [3] (e) and (i), [5], [7], [14] and the interface of heapeffects/histories.py."""

import random
import unittest

from heapeffects.effects import Effect
from heapeffects.errors import EmptyHeap, InvalidBag, InvalidProgram, OutOfRange
from heapeffects.histories import fate, first_failure, heap_after, removal_bound, removed_at
from heapeffects.programs import prefix, removal_count, step_count
from tests import by_hand
from tests.wrong_values import HOSTILE, NOT_BAGS, NOT_INDEXES, NOT_PROGRAMS, ErrorCase

HUGE = 10 ** 30
BODY = (("insert", 3, 1), ("insert", 7, 1), ("remove", 1))
LOOP = (("repeat", HUGE, BODY),)
DRAIN = (("remove", 2), ("insert", 9, 1))


class SmallPrograms(ErrorCase):
    """[3] (e): every place of small programs, against a run of their elementary steps."""

    def check_heaps(self, start, program, contents, failing):
        bag = by_hand.bag(start)
        length = len(by_hand.steps_of(program))
        for index in range(length + 1):
            if failing is None or index <= failing:
                self.assertEqual(heap_after(bag, program, index), contents[index])
            else:
                self.assert_error(EmptyHeap, "index", failing, heap_after, bag, program, index)
        for index in (-1, length + 1, length + 2):
            self.assert_error(OutOfRange, "value", index, heap_after, bag, program, index)

    def check_removals(self, start, program, removed, failing):
        bag = by_hand.bag(start)
        steps = by_hand.steps_of(program)
        places = [index for index, step in enumerate(steps) if step[0] == "remove"]
        for ordinal, place in enumerate(places):
            if ordinal < len(removed):
                self.assertEqual(removed_at(bag, program, ordinal), removed[ordinal])
            else:
                self.assert_error(EmptyHeap, "index", failing, removed_at, bag, program, ordinal)
            survivors = by_hand.triple(steps[:place])[2]
            self.assertEqual(removal_bound(program, ordinal), survivors[0][0] if survivors else None)
        for ordinal in (-1, len(places), len(places) + 1):
            self.assert_error(OutOfRange, "value", ordinal, removed_at, bag, program, ordinal)
            self.assert_error(OutOfRange, "value", ordinal, removal_bound, program, ordinal)

    def check_fates(self, start, program, fates, failing):
        bag = by_hand.bag(start)
        steps = by_hand.steps_of(program)
        for index, step in enumerate(steps):
            if step[0] == "remove":
                self.assert_error(OutOfRange, "value", index, fate, bag, program, index)
            elif failing is not None:
                self.assert_error(EmptyHeap, "index", failing, fate, bag, program, index)
            else:
                self.assertEqual(fate(bag, program, index), fates[index])
        for index in (-1, len(steps), len(steps) + 1):
            self.assert_error(OutOfRange, "value", index, fate, bag, program, index)

    def check(self, start, program):
        contents, removed, fates, failing = by_hand.told(start, by_hand.steps_of(program))
        self.assertEqual(first_failure(by_hand.bag(start), program), failing)
        self.check_heaps(start, program, contents, failing)
        self.check_removals(start, program, removed, failing)
        self.check_fates(start, program, fates, failing)
        return failing

    def test_all_short_programs(self):
        for length in range(5):
            for steps in by_hand.sequences((1, 2), length):
                for start in ((), (1,), (2, 2), (0, 1, 3)):
                    self.check(start, steps)

    def test_nested_programs(self):
        source = random.Random(1)
        kinds = {True: 0, False: 0}
        while min(kinds.values()) < 60:
            program = by_hand.random_program(source, (-1, 2, 4, 9), 4, 4)
            if 0 < len(by_hand.steps_of(program)) <= 60:
                start = [source.choice((-5, -1, 2, 3, 9)) for _ in range(source.randint(0, 9))]
                kinds[self.check(start, program) is None] += 1

    def test_equal_numbers(self):
        for start in ((), (5,), (5, 5, 5), (4, 5), (5, 6)):
            for program in (
                    (("insert", 5, 3), ("remove", 2)),
                    (("insert", 5, 2), ("remove", 1), ("insert", 5, 2), ("remove", 3)),
                    (("repeat", 4, (("insert", 5, 2), ("remove", 1))),),
                    (("repeat", 3, (("insert", 5, 1), ("insert", 6, 1), ("insert", 5, 1), ("remove", 2))),),
                    (("insert", 6, 2), ("repeat", 3, (("insert", 5, 1), ("remove", 1))), ("remove", 2))):
                self.assertIsNone(self.check(start, program))

    def test_steps_with_the_count_0(self):
        program = (("insert", 5, 0), ("remove", 0), ("repeat", 0, LOOP), ("repeat", 2, ()), ("insert", 4, 1),
                   ("repeat", 3, (("remove", 0), ("insert", 3, 1), ("insert", 1, 0))), ("remove", 2), ("insert", 8, 0))
        self.check((), program)
        self.check((3, 4), program)
        idle = (("repeat", HUGE, (("insert", 5, 0), ("repeat", HUGE, ()))),)
        program = idle + (("insert", 4, 1),) + idle + (("remove", 2),) + idle
        self.assertEqual(first_failure((), program), 2)
        self.assertEqual(heap_after(((6, 1),), program, 2), ((6, 1),))
        self.assertEqual(removed_at(((6, 1),), program, 1), 6)
        self.assertEqual(fate(((6, 1),), program, 0), 1)
        self.assertEqual(removal_bound(program, 0), 4)
        self.assertIsNone(first_failure((), ()))
        self.assertEqual(heap_after(((5, 1),), (), 0), ((5, 1),))

    def test_what_fails_in_later_turns(self):
        self.check((1, 1, 1, 1, 1), (("repeat", 9, DRAIN),))
        self.check((1, 2, 2, 3, 3), (("repeat", 3, (("repeat", 2, DRAIN), ("insert", 0, 1))),))
        self.check((), (("repeat", 3, (("insert", 5, 2), ("repeat", 2, (("remove", 2), ("insert", 2, 1))))),))


class HugePrograms(ErrorCase):
    """[3] (e): programs that cannot be run step by step."""

    def test_the_loop_of_the_document(self):
        length = 3 * HUGE
        self.assertIsNone(first_failure((), LOOP))
        for turns in (0, 1, HUGE // 2, HUGE - 1, HUGE):
            expected = ((7, turns),) if turns else ()
            self.assertEqual(heap_after((), LOOP, 3 * turns), expected)
            self.assertEqual(heap_after(((1, HUGE),), LOOP, 3 * turns),
                             ((((1, HUGE - turns),) if turns < HUGE else ())
                              + (((3, turns), (7, turns)) if turns else ())))
        for turn in (0, 1, HUGE // 2, HUGE - 1):
            self.assertEqual(removed_at((), LOOP, turn), 3)
            self.assertEqual(removed_at(((1, HUGE // 2),), LOOP, turn), 1 if turn < HUGE // 2 else 3)
            self.assertEqual(fate((), LOOP, 3 * turn), 3 * turn + 2)
            self.assertIsNone(fate((), LOOP, 3 * turn + 1))
            self.assert_error(OutOfRange, "value", 3 * turn + 2, fate, (), LOOP, 3 * turn + 2)
            self.assertEqual(removal_bound(LOOP, turn), 3)
        # Numbers of the start go first, so that each 3 waits HUGE // 2 turns.
        bag = ((1, HUGE // 2),)
        self.assertEqual(fate(bag, LOOP, 0), 3 * (HUGE // 2) + 2)
        self.assertEqual(fate(bag, LOOP, 3 * (HUGE // 2 - 1)), 3 * (HUGE - 1) + 2)
        self.assertIsNone(fate(bag, LOOP, 3 * (HUGE // 2)))
        for index in (length + 1, -1):
            self.assert_error(OutOfRange, "value", index, heap_after, (), LOOP, index)
        self.assert_error(OutOfRange, "value", length, fate, (), LOOP, length)
        for call in (lambda index: removed_at((), LOOP, index), lambda index: removal_bound(LOOP, index)):
            self.assert_error(OutOfRange, "value", HUGE, call, HUGE)

    def test_failures(self):
        for many in (1, 2, HUGE - 1, HUGE // 2):
            # Each turn but the last leaves one number less than it found.
            failing = 3 * (many - 1) + 1
            program = (("repeat", HUGE, DRAIN),)
            bag = ((1, many),)
            self.assertEqual(first_failure(bag, program), failing)
            self.assertEqual(heap_after(bag, program, failing), ())
            self.assert_error(EmptyHeap, "index", failing, heap_after, bag, program, failing + 1)
            self.assert_error(EmptyHeap, "index", failing, heap_after, bag, program, 3 * HUGE)
            self.assertIn(removed_at(bag, program, 2 * (many - 1)), (1, 9))
            for ordinal in (2 * many - 1, 2 * many, 2 * HUGE - 1):
                self.assert_error(EmptyHeap, "index", failing, removed_at, bag, program, ordinal)
            for index in (2, 3 * (HUGE - 1) + 2):
                self.assert_error(EmptyHeap, "index", failing, fate, bag, program, index)
            self.assert_error(OutOfRange, "value", 0, fate, bag, program, 0)
            self.assert_error(OutOfRange, "value", 2 * HUGE, removed_at, bag, program, 2 * HUGE)
        self.assertIsNone(first_failure(((1, HUGE + 1),), (("repeat", HUGE, DRAIN),)))

    def test_a_failure_in_the_last_of_all_steps(self):
        program = (("repeat", HUGE, (("insert", 2, 3), ("remove", 2))), ("remove", HUGE + 1))
        self.assertEqual(first_failure((), program), 6 * HUGE)
        self.assertEqual(heap_after((), program, 6 * HUGE), ())
        self.assert_error(EmptyHeap, "index", 6 * HUGE, heap_after, (), program, 6 * HUGE + 1)
        self.assertEqual(removed_at((), program, 3 * HUGE - 1), 2)
        self.assert_error(EmptyHeap, "index", 6 * HUGE, removed_at, (), program, 3 * HUGE)
        self.assertEqual(removed_at(((8, 1),), program, 3 * HUGE), 8)
        self.assertIsNone(first_failure(((8, 1),), program))

    def test_eight_levels(self):
        deep = by_hand.nested(8, BODY, HUGE)
        turns = HUGE ** 3
        self.assertEqual(step_count(deep), 3 * HUGE ** 7)
        for index in (0, 1, turns, turns + 1, turns + 2, 3 * turns, 10 ** 99):
            whole, rest = divmod(index, 3)
            expected = {3: 1, 7: whole + (rest == 2)} if rest else {7: whole}
            self.assertEqual(dict(heap_after((), deep, index)), {number: many for number, many in expected.items() if many})
        for ordinal in (0, 1, turns, 10 ** 99):
            self.assertEqual(removed_at((), deep, ordinal), 3)
            self.assertEqual(removal_bound(deep, ordinal), 3)
        for turn in (0, 1, turns, 10 ** 98):
            self.assertEqual(fate((), deep, 3 * turn), 3 * turn + 2)
            self.assertIsNone(fate((), deep, 3 * turn + 1))
        self.assertIsNone(first_failure((), deep))
        self.assertEqual(first_failure(((1, turns),), by_hand.nested(8, DRAIN, HUGE)), 3 * (turns - 1) + 1)

    def test_inner_loops_and_what_follows_them(self):
        # Each outer turn leaves HUGE sevens and takes HUGE numbers away.
        program = (("repeat", HUGE, (("repeat", HUGE, (("insert", 7, 1), ("insert", 9, 1))), ("remove", HUGE),
                                     ("insert", 1, 1), ("remove", 1))), ("remove", HUGE))
        turn = 3 * HUGE + 2
        for at in (0, 1, HUGE // 2, HUGE - 1):
            self.assertEqual(heap_after((), program, at * turn), ((9, at * HUGE),) if at else ())
            self.assertEqual(fate((), program, at * turn + 2 * (HUGE // 3)), at * turn + 2 * HUGE + HUGE // 3)
            self.assertEqual(fate((), program, at * turn + 3 * HUGE), at * turn + 3 * HUGE + 1)
            self.assertEqual(removed_at((), program, at * (HUGE + 1)), 7)
            self.assertEqual(removed_at((), program, at * (HUGE + 1) + HUGE), 1)
            self.assertEqual(removal_bound(program, at * (HUGE + 1)), 7)
            self.assertEqual(removal_bound(program, at * (HUGE + 1) + HUGE), 1)
        end = HUGE * turn
        # The nines of the first turn are the ones that are removed at the end, in their order.
        self.assertEqual(fate((), program, 1), end)
        self.assertEqual(fate((), program, 2 * HUGE - 1), end + HUGE - 1)
        self.assertIsNone(fate((), program, turn + 1))
        self.assertEqual(removed_at((), program, HUGE * (HUGE + 1)), 9)
        self.assertEqual(heap_after((), program, end + HUGE), ((9, HUGE ** 2 - HUGE),))

    def test_equal_numbers_wait_for_each_other(self):
        program = (("insert", 5, HUGE), ("repeat", HUGE, (("insert", 5, 1), ("remove", 1))), ("remove", 2))
        bag = ((5, 3), (6, HUGE))
        # Number k of the program is removed by the removal k + 3, the first HUGE of which stand in the loop.
        for number in (0, 1, HUGE // 2, HUGE - 4):
            self.assertEqual(fate(bag, program, number), HUGE + 2 * (number + 3) + 1)
        for number in (HUGE - 3, HUGE - 2):
            self.assertEqual(fate(bag, program, number), 3 * HUGE + number - (HUGE - 3))
        self.assertIsNone(fate(bag, program, HUGE - 1))
        self.assertIsNone(fate(bag, program, HUGE))
        self.assertIsNone(fate(bag, program, 3 * HUGE - 2))

    def test_bounds(self):
        program = (("remove", HUGE), ("repeat", HUGE, BODY), ("remove", HUGE), ("remove", 1))
        for ordinal in (0, HUGE - 1, 3 * HUGE):
            self.assertIsNone(removal_bound(program, ordinal))
        self.assertEqual(removal_bound(program, HUGE), 3)
        self.assertEqual(removal_bound(program, 2 * HUGE), 7)
        self.assertEqual(removal_bound(program, 3 * HUGE - 1), 7)
        self.assert_error(OutOfRange, "value", 3 * HUGE + 1, removal_bound, program, 3 * HUGE + 1)

    def test_many_steps_and_entries(self):
        program = ()
        for number in range(7):
            program = (("repeat", 10 ** 13 + number, program + tuple(
                ("insert", 10 * each + number, 10 ** 30 + each) for each in range(50)) + (("remove", 10 ** 31),)),)
        bag = tuple((number, 10 ** 99) for number in range(100))
        length, removals = step_count(program), removal_count(program)
        for index in (0, length // 3, length // 2):
            found = heap_after(bag, program, index)
            self.assertEqual(found, Effect.of(prefix(program, index)).apply(bag))
        self.assertIn(removed_at(bag, program, removals // 2), range(600))
        self.assertIsNone(first_failure(bag, program))
        self.assertLess(removal_bound(program, removals // 2), 600)
        fate(bag, program, length // 2 // 10 ** 20)


class Rules(ErrorCase):
    """How the functions of histories hang together."""

    def test_a_bound_is_reached_on_great_numbers_and_never_passed(self):
        source = random.Random(3)
        for _ in range(80):
            program = by_hand.random_program(source, (1, 2, 4), 4, 3)
            many = removal_count(program)
            for ordinal in range(min(many, 12)):
                bound = removal_bound(program, ordinal)
                if bound is None:
                    self.assertEqual(removed_at(((HUGE, many),), program, ordinal), HUGE)
                else:
                    self.assertEqual(removed_at(((HUGE, many),), program, ordinal), bound)
                    for bag in (((0, many),), ((2, many),), ((1, 1), (3, many))):
                        self.assertLessEqual(removed_at(bag, program, ordinal), bound)

    def test_a_fate_is_the_removal_of_that_number(self):
        source = random.Random(4)
        for _ in range(40):
            program = by_hand.random_program(source, (1, 2, 4), 4, 3)
            steps = by_hand.steps_of(program)
            bag = ((0, 1), (2, len(steps)))
            for index, step in enumerate(steps):
                if step[0] == "insert":
                    removal = fate(bag, program, index)
                    if removal is not None:
                        self.assertGreater(removal, index)
                        ordinal = sum(step[0] == "remove" for step in steps[:removal])
                        self.assertEqual(removed_at(bag, program, ordinal), step[1])

    def test_results_move_along(self):
        source = random.Random(5)
        for _ in range(40):
            program = by_hand.random_program(source, (1, 2, 4), 4, 3) + BODY
            bag = ((0, 1), (2, 60))
            for by in (-3, HUGE):
                far, other = by_hand.moved(bag, by), by_hand.moved_program(program, by)
                self.assertEqual(first_failure(far, other), first_failure(bag, program))
                if first_failure(bag, program) is None:
                    for index in (0, step_count(program) - 2, step_count(program)):
                        self.assertEqual(heap_after(far, other, index), by_hand.moved(heap_after(bag, program, index), by))
                    last = removal_count(program) - 1
                    self.assertEqual(removed_at(far, other, last), removed_at(bag, program, last) + by)
                    self.assertEqual(removal_bound(other, last), removal_bound(program, last) + by)
                    at = step_count(program) - 3
                    self.assertEqual(fate(far, other, at), fate(bag, program, at))


class General(ErrorCase):
    """[2]: names of arguments, wrong arguments and their order."""

    def test_arguments_by_name(self):
        self.assertEqual(first_failure(program=DRAIN, bag=((5, 1),)), 1)
        self.assertEqual(heap_after(index=2, program=BODY, bag=((5, 1),)), ((3, 1), (5, 1), (7, 1)))
        self.assertEqual(removed_at(ordinal=0, program=BODY, bag=((5, 1),)), 3)
        self.assertEqual(fate(index=0, program=BODY, bag=((5, 1),)), 2)
        self.assertEqual(removal_bound(ordinal=0, program=BODY), 3)

    def test_wrong_bags(self):
        for wrong in NOT_BAGS:
            self.assert_error(InvalidBag, "value", wrong, first_failure, wrong, None)
            for call in (heap_after, removed_at, fate):
                self.assert_error(InvalidBag, "value", wrong, call, wrong, BODY, 0)
                self.assert_error(InvalidBag, "value", wrong, call, wrong, HOSTILE, HOSTILE)

    def test_wrong_programs(self):
        for wrong, path in NOT_PROGRAMS:
            self.assert_error(InvalidProgram, "path", path, first_failure, (), wrong)
            for call in (heap_after, removed_at, fate):
                self.assert_error(InvalidProgram, "path", path, call, (), wrong, 0)
                self.assert_error(InvalidProgram, "path", path, call, (), wrong, HOSTILE)
            self.assert_error(InvalidProgram, "path", path, removal_bound, wrong, HOSTILE)

    def test_wrong_indexes(self):
        for wrong in NOT_INDEXES + (4, HUGE):
            for call in (heap_after, removed_at, fate):
                self.assert_error(OutOfRange, "value", wrong, call, (), BODY, wrong)
                # The index comes before the failure, wherever that is.
                self.assert_error(OutOfRange, "value", wrong, call, (), (("remove", 3),), wrong)
                self.assert_error(OutOfRange, "value", wrong, call, (), (("insert", 5, 1), ("remove", 2)), wrong)
            self.assert_error(OutOfRange, "value", wrong, removal_bound, BODY, wrong)
        for call in (removed_at, fate):
            self.assert_error(OutOfRange, "value", 0, call, (), (), 0)
        self.assert_error(OutOfRange, "value", 0, removal_bound, (), 0)
        self.assert_error(OutOfRange, "value", 1, heap_after, (), (), 1)

    def test_a_failure_behind_the_place(self):
        program = (("insert", 5, 1), ("insert", 6, 1), ("remove", 3))
        self.assertEqual(heap_after((), program, 4), ())
        self.assertEqual(removed_at((), program, 1), 6)
        self.assert_error(EmptyHeap, "index", 4, heap_after, (), program, 5)
        self.assert_error(EmptyHeap, "index", 4, removed_at, (), program, 2)
        # A fate needs the whole program.
        self.assert_error(EmptyHeap, "index", 4, fate, (), program, 0)


if __name__ == "__main__":
    unittest.main()
