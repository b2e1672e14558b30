"""[3] over the whole program: what its files promise together."""

import copy
import random
import unittest

from heapeffects.algebra import commute, compose, exponent, power, root
from heapeffects.bags import contains, numbers_in, size_of, union
from heapeffects.derivations import check_derivation, derivation
from heapeffects.division import left_quotient, right_quotient
from heapeffects.effects import Effect
from heapeffects.errors import EmptyHeap, OutOfRange
from heapeffects.formats import format_bag, format_effect, format_program, parse_bag, parse_effect, parse_program
from heapeffects.heaps import BoundedHeap, Heap, RecordedHeap, heaps_along, removed_along
from heapeffects.histories import fate, first_failure, heap_after, removal_bound, removed_at
from heapeffects.observations import agrees, possible_survivors, question_size
from heapeffects.plans import distance, plan, preimage
from heapeffects.programs import expand, prefix, removal_count, step_at, step_count, suffix
from heapeffects.separation import identify, separating_heap
from heapeffects.sequences import all_sequences, count_sequences, effect_of, index_of, sequence_at
from heapeffects.sessions import Session
from heapeffects.sized import SizedEffect
from tests import by_hand
from tests.wrong_values import ErrorCase

HUGE = 10 ** 30
VALUES = (-3, 1, 2, 8)


def outcome(call, *arguments):
    """What a call returns, or the index of the failure."""
    try:
        return call(*arguments)
    except EmptyHeap as error:
        return "fails", error.index


def programs(seed, many, depth=3, counts=(1, 2, HUGE)):
    """Random programs, some of them too long to be run."""
    source = random.Random(seed)
    for _ in range(many):
        yield (("repeat", source.choice(counts), by_hand.random_program(source, VALUES, 4, depth)),
               *by_hand.random_program(source, VALUES, 3, depth))


def places(program):
    """Some indexes of elementary steps from the first to the last, and the length."""
    length = step_count(program)
    return sorted({0, min(1, length), length // 3, length // 2, max(length - 1, 0), length})


class Parts(ErrorCase):
    """Programs that are cut into parts."""

    def test_effects_heaps_and_texts_of_the_parts(self):
        for program in programs(1, 60):
            whole = Effect.of(program)
            for index in places(program):
                head, tail = prefix(program, index), suffix(program, index)
                self.assertEqual(compose(Effect.of(head), Effect.of(tail)), whole)
                for part in (head, tail):
                    self.assertEqual(parse_program(format_program(part)), part)
                bag = ((0, whole.needed + 1), (9, HUGE))
                between = heap_after(bag, program, index)
                self.assertEqual(between, Effect.of(head).apply(bag))
                self.assertEqual(Effect.of(tail).apply(between), whole.apply(bag))
                session = Session(bag)
                removed = union(session.run("ann", head), session.run("bo", tail))
                self.assertEqual((removed, session.contents), (whole.removed(bag), whole.apply(bag)))

    def test_histories_of_the_parts(self):
        for program in programs(2, 60):
            bag = ((0, 2), (9, HUGE))
            failing = first_failure(bag, program)
            heap = Heap(bag)
            self.assertEqual(outcome(heap.run, program) == ("fails", failing), failing is not None)
            for index in places(program):
                found = outcome(heap_after, bag, program, index)
                if failing is not None and failing < index:
                    self.assertEqual(found, ("fails", failing))
                    continue
                rest = outcome(first_failure, found, suffix(program, index))
                self.assertEqual(rest, None if failing is None else failing - index)
                before = removal_count(prefix(program, index))
                if index < step_count(program) and step_at(program, index)[0] == "remove":
                    if failing != index:
                        self.assertEqual(removed_at(bag, program, before), found[0][0])
                        bound = removal_bound(program, before)
                        self.assertTrue(bound is None or found[0][0] <= bound)

    def test_steps_that_are_walked(self):
        for program in programs(3, 60, counts=(1, 2)):
            if step_count(program) > 1000:
                continue
            bag = ((0, 2), (2, Effect.of(program).needed + 1))
            heaps, removed = list(heaps_along(bag, program)), list(removed_along(bag, program))
            self.assertEqual(heaps, [heap_after(bag, program, index) for index in range(len(heaps))])
            self.assertEqual(removed, [removed_at(bag, program, ordinal) for ordinal in range(len(removed))])
            steps = expand(program)
            fates = {index: fate(bag, program, index) for index, step in enumerate(steps) if step[0] == "insert"}
            places_of_removals = [index for index, step in enumerate(steps) if step[0] == "remove"]
            for index, place in fates.items():
                if place is not None:
                    self.assertEqual(removed[places_of_removals.index(place)], steps[index][1])
            gone = [steps[index][1] for index, place in fates.items() if place is not None]
            self.assertTrue(contains(by_hand.bag(removed), by_hand.bag(gone)))
            self.assertEqual(heaps[-1], Effect.of(program).apply(bag))


class Texts(ErrorCase):
    """Effects that are formatted, parsed, composed, divided and run on heaps."""

    def test_effects_and_their_texts(self):
        for program, other in zip(programs(4, 60), programs(5, 60)):
            first, last = Effect.of(program), parse_effect(format_effect(Effect.of(other)))
            whole = parse_effect(format_effect(compose(first, last)))
            self.assertEqual(whole, Effect.of(parse_program(format_program(program + other))))
            self.assertEqual(compose(first, parse_effect(format_effect(right_quotient(whole, first)))), whole)
            self.assertEqual(compose(parse_effect(format_effect(left_quotient(whole, last))), last), whole)
            self.assertEqual(Effect.of(parse_program(format_program(whole.normal()))), whole)
            bag = parse_bag(format_bag(((-5, whole.needed + first.needed + 1), (3, HUGE))))
            self.assertEqual(whole.apply(bag), last.apply(first.apply(bag)))
            heap = RecordedHeap(bag)
            heap.run(program)
            heap.run(parse_program(format_program(last.normal())))
            self.assertEqual(heap.contents, whole.apply(bag))
            self.assertEqual((heap.undo(), heap.undo()[1], heap.contents), (("run", last.normal()), program, bag))
            self.assertEqual(whole.apply(preimage(whole, whole.apply(bag))), whole.apply(bag))

    def test_powers_roots_and_their_texts(self):
        for program in programs(6, 40):
            effect = Effect.of(program)
            for count in (2, 3, 10 ** 20):
                whole = parse_effect(format_effect(power(effect, count)))
                self.assertEqual(whole, Effect.of((("repeat", count, program),)))
                self.assertEqual(root(whole, count), effect)
                self.assertEqual(exponent(whole, effect), 0 if effect == Effect.identity() else count)
                self.assertTrue(commute(whole, effect))

    def test_sequences_and_their_texts(self):
        for triple in by_hand.triples((1, 2), 3, 3):
            effect = parse_effect(format_effect(Effect(*triple)))
            sequences = [list(parse_program(format_program(tuple(steps)))) if steps else []
                         for steps in all_sequences(effect)]
            self.assertEqual(len(sequences), count_sequences(effect))
            for index, steps in enumerate(sequences):
                self.assertEqual((effect_of(steps), index_of(steps)), (effect, index))
                self.assertTrue(check_derivation(steps, sequences[0], derivation(steps, sequences[0])))


class Telling(ErrorCase):
    """Effects are told apart, found by their results, and asked for."""

    def test_alike_or_separated(self):
        effects = [Effect.of(program) for program in programs(7, 25, depth=2, counts=(1, HUGE))]
        for one in effects:
            for other in effects:
                heap = separating_heap(one, other)
                if heap is None:
                    self.assertEqual(one, other)
                else:
                    self.assertNotEqual(outcome(one.apply, heap), outcome(other.apply, heap))
                    observed = [(heap, outcome(one.apply, heap))]
                    if observed[0][1] != ("fails", None):
                        self.assertTrue(agrees(one, observed))
                        self.assertFalse(agrees(other, observed))

    def test_what_two_heaps_tell(self):
        for program in programs(8, 60):
            effect = Effect.of(program)
            size = effect.removals + 1
            results = [effect.apply(((number, size),)) for number in (VALUES[0] - 1, VALUES[-1] + 1)]
            self.assertEqual(identify(VALUES[0], VALUES[-1], size, *results), effect)

    def test_questions_and_answers(self):
        for triple in by_hand.triples((1, 2, 4), 3, 3):
            effect = Effect(*triple)
            heap = ((0, 1), (2, 1), (3, 3))
            observed = [(heap, effect.apply(heap))] if effect.needed <= 5 else []
            size = question_size(effect.inserted, effect.removals, observed)
            if size is not None and effect.needed <= size:
                # Any greater numbers will do.
                asked = ((5, size - size // 2), (6, size // 2)) if size > 1 else ((7, 1),)[:size]
                observed.append((asked, effect.apply(asked)))
                self.assertEqual(possible_survivors(effect.inserted, effect.removals, observed),
                                 (1, effect.survivors, effect.survivors))


class Runs(ErrorCase):
    """The same steps as a program, in a session, on a heap with a capacity, and as sized steps."""

    def test_sessions_against_the_composition_of_their_effects(self):
        source = random.Random(9)
        for _ in range(60):
            start = ((0, source.choice((0, 3, HUGE)) + 1), (5, 2))
            session, entries = Session(start), []
            for program in programs(source.randint(0, 10 ** 6), 5):
                user = source.choice(("ann", "bo"))
                if first_failure(session.contents, program) is None:
                    session.run(user, program)
                    entries.append((user, program))
            self.assertEqual(session.entries, entries)
            whole = compose(*[Effect.of(program) for _, program in entries])
            self.assertEqual(session.contents, whole.apply(start))
            for user in ("ann", "bo"):
                own = tuple(step for name, program in entries if name == user for step in program)
                self.assertEqual(session.effect(user), Effect.of(own))
            if entries:
                user = entries[-1][0]
                session.undo(user)
                whole = compose(*[Effect.of(program) for _, program in entries[:-1]])
                self.assertEqual(session.contents, whole.apply(start))

    def test_sized_steps_and_capacities(self):
        source = random.Random(10)
        for _ in range(100):
            steps = tuple(("insert", source.choice(VALUES), 1) if source.random() < 0.6 else ("remove", 1)
                          for _ in range(12))
            sized = [step[:2] if step[0] == "insert" else ("remove",) for step in steps]
            size = Effect.of(steps).needed + source.randint(1, 3)
            bag = by_hand.bag(source.choices((-4, 0, 1, 9), k=size))
            self.assertEqual(SizedEffect(sized, size=size).apply(bag), Effect.of(steps).apply(bag))
            heap = BoundedHeap(bag, capacity=size + 1)
            expected = outcome(heap.run, steps)
            try:
                found = SizedEffect(sized, size=size, capacity=size + 1).apply(bag)
            except EmptyHeap as error:
                self.assertEqual(expected, ("fails", error.index))
            else:
                self.assertEqual(found, heap.contents)

    def test_plans(self):
        source = random.Random(11)
        for _ in range(60):
            start, goal = [by_hand.bag(source.choices(VALUES, k=source.randint(0, 6))) for _ in range(2)]
            program = parse_program(format_program(plan(start, goal)))
            self.assertEqual(step_count(program), distance(start, goal))
            self.assertIsNone(first_failure(start, program))
            self.assertEqual(heap_after(start, program, distance(start, goal)), goal)
            session = Session(start)
            session.run("ann", program)
            self.assertEqual(session.contents, goal)
            self.assertLessEqual(abs(size_of(start) - size_of(goal)), distance(start, goal))


class Moved(ErrorCase):
    """[3] (i): moving all numbers moves all results."""

    def test_results_of_several_files(self):
        source = random.Random(12)
        for program in programs(13, 40):
            by = source.choice((-7, HUGE))
            effect, other = Effect.of(program), Effect.of(by_hand.moved_program(program, by))
            self.assertEqual(other, effect.moved(by))
            self.assertEqual(parse_effect(format_effect(other)), effect.moved(by))
            self.assertEqual(root(power(other, 5), 5), effect.moved(by))
            bag = ((-5, effect.needed + 1), (2, HUGE))
            far, there = by_hand.moved(bag, by), by_hand.moved_program(program, by)
            for index in places(program):
                self.assertEqual(heap_after(far, there, index), by_hand.moved(heap_after(bag, program, index), by))
                self.assertEqual(self.fate_at(far, there, index), self.fate_at(bag, program, index))
            self.assertEqual(plan(far, other.apply(far)), by_hand.moved_program(plan(bag, effect.apply(bag)), by))
            session, distant = Session(bag), Session(far)
            self.assertEqual(distant.run("ann", there), by_hand.moved(session.run("ann", program), by))
            self.assertEqual(distant.effect("ann"), session.effect("ann").moved(by))

    def fate_at(self, bag, program, index):
        try:
            return fate(bag, program, index)
        except OutOfRange:
            return "no insertion"


class Unchanged(ErrorCase):
    """[2]: no call changes its arguments, and every list is new."""

    def test_lists_that_are_given_and_returned(self):
        steps = [("insert", 3, 1), ("insert", 7, 1), ("remove", 1)]
        target = [steps[0], steps[2], steps[1]]
        sized, observed = [("insert", 2), ("remove",)], [(((1, 1),), ((1, 1), (2, 1)))]
        given = [steps, target, sized, observed]
        before = copy.deepcopy(given)
        effect = effect_of(steps)
        calls = [
            lambda: expand(tuple(steps)), lambda: numbers_in(((2, 1), (5, 2))), lambda: sequence_at(effect, 1),
            lambda: derivation(steps, target), lambda: Session().entries, lambda: RecordedHeap().record,
            lambda: list(all_sequences(effect))[0],
        ]
        for call in calls:
            first, second = call(), call()
            self.assertEqual(first, second)
            self.assertIsNot(first, second)
            first.append("changed")
            self.assertEqual(call(), second)
        check_derivation(steps, target, [1])
        index_of(steps)
        SizedEffect(sized, size=2)
        possible_survivors(((2, 1),), 1, observed)
        agrees(effect, observed)
        self.assertEqual(given, before)


if __name__ == "__main__":
    unittest.main()
