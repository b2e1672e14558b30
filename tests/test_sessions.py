"""Points [2], [3] (i), [7], [17] and the interface of heapeffects/sessions.py."""

import random
import unittest

from heapeffects.effects import Effect
from heapeffects.errors import EmptyHeap, InvalidBag, InvalidProgram, InvalidUser, NothingToUndo
from heapeffects.heaps import Heap
from heapeffects.sessions import Session
from tests import by_hand
from tests.wrong_values import HOSTILE, NOT_BAGS, NOT_EFFECTS, NOT_PROGRAMS, ErrorCase

HUGE = 10 ** 30
BODY = (("insert", 3, 1), ("insert", 7, 1), ("remove", 1))
LOOP = (("repeat", HUGE, BODY),)
USERS = ("ann", "bo", "c")

NOT_USERS = (
    None, True, False, 0, 5, b"ann", b"", (), ("ann",), [], ["ann"], {}, {"ann": 1}, set(), 1.5, str, object(), HOSTILE,
    "", " ", "a b", "Ann", "ANN", "aNn", "ann ", " ann", "ann1", "a-b", "a_b", "ann.", "abcdefghi", "a" * 100, "`", "{",
    "a\n", "\n",
)


def state(session):
    """All that can be seen of a session."""
    return session.contents, session.entries, [session.effect(user) for user in USERS + ("nobody",)]


def after(start, entries):
    """What a run of all entries leaves, as a bag, or the index of the first entry that fails."""
    heap = by_hand.numbers(start)
    for index, (_, program) in enumerate(entries):
        outcome = by_hand.run(heap, by_hand.steps_of(program))
        if outcome is None:
            return index
        heap = by_hand.numbers(outcome[0])
    return by_hand.bag(heap)


class Runs(ErrorCase):
    """Session and Session.run."""

    def test_a_new_session(self):
        self.assertEqual(state(Session()), ((), [], [Effect.identity()] * 4))
        self.assertEqual(Session(((5, HUGE),)).contents, ((5, HUGE),))
        self.assertEqual(Session(bag=((-5, 2), (5, 1))).contents, ((-5, 2), (5, 1)))

    def test_what_is_removed_and_what_is_left(self):
        session = Session(((5, 2),))
        self.assertEqual(session.run("ann", BODY), ((3, 1),))
        self.assertEqual(session.run(program=(("remove", 2),), user="bo"), ((5, 2),))
        self.assertEqual(session.run("ann", ()), ())
        self.assertEqual(session.run("c", LOOP), ((3, HUGE),))
        self.assertEqual(session.contents, ((7, HUGE + 1),))
        self.assertEqual(session.entries, [("ann", BODY), ("bo", (("remove", 2),)), ("ann", ()), ("c", LOOP)])

    def test_programs_of_several_users_beside_a_heap(self):
        source = random.Random(1)
        for _ in range(40):
            start = by_hand.bag(source.choices((0, 2, 5), k=4))
            session, heap, entries = Session(start), Heap(start), []
            for _ in range(8):
                user, program = source.choice(USERS), by_hand.random_program(source, (-1, 2, 4), 3, 3)
                try:
                    removed = heap.run(program)
                except EmptyHeap as error:
                    before = state(session)
                    self.assert_error(EmptyHeap, "index", error.index, session.run, user, program)
                    self.assertEqual(state(session), before)
                    continue
                entries.append((user, program))
                self.assertEqual(session.run(user, program), removed)
                self.assertEqual((session.contents, session.entries), (heap.contents, entries))
                self.assertEqual(session.contents, after(start, entries))

    def test_a_program_that_fails_changes_nothing(self):
        session = Session(((5, 2),))
        session.run("ann", BODY)
        before = state(session)
        for program, index in (((("remove", 4),), 3), (LOOP + (("remove", HUGE + 4),), 4 * HUGE + 3),
                               ((("insert", 5, 1), ("repeat", HUGE, (("remove", 1),))), 5)):
            self.assert_error(EmptyHeap, "index", index, session.run, "bo", program)
            self.assertEqual(state(session), before)


class Undone(ErrorCase):
    """Session.undo."""

    def test_any_order_beside_a_run_of_what_is_left(self):
        source = random.Random(2)
        undone = refused = 0
        for _ in range(400):
            start = by_hand.bag(source.choices((0, 2, 5), k=source.randint(0, 3)))
            session, entries = Session(start), []
            for _ in range(6):
                entry = (source.choice(USERS), by_hand.random_program(source, (-1, 2, 4), 3, 2))
                if isinstance(after(start, entries + [entry]), tuple):
                    session.run(*entry)
                    entries.append(entry)
            for user in source.choices(USERS, k=8):
                places = [index for index, entry in enumerate(entries) if entry[0] == user]
                before = state(session)
                if not places:
                    self.assert_nothing_to_undo(session, user)
                    self.assertEqual(state(session), before)
                    continue
                left = entries[:places[-1]] + entries[places[-1] + 1:]
                found = after(start, left)
                if isinstance(found, int):
                    refused += 1
                    self.assert_error(EmptyHeap, "index", found, session.undo, user)
                    self.assertEqual(state(session), before)
                else:
                    undone += 1
                    self.assertEqual(session.undo(user), entries[places[-1]][1])
                    entries = left
                    self.assertEqual((session.contents, session.entries), (found, entries))
        self.assertGreater(undone, 100)
        self.assertGreater(refused, 50)

    def assert_nothing_to_undo(self, session, user):
        with self.assertRaises(NothingToUndo) as caught:
            session.undo(user)
        self.assertIs(type(caught.exception), NothingToUndo)

    def test_the_only_entry_and_once_more(self):
        session = Session(((5, 1),))
        self.assert_nothing_to_undo(session, "ann")
        session.run("ann", LOOP)
        self.assert_nothing_to_undo(session, "bo")
        self.assertEqual(session.undo(user="ann"), LOOP)
        self.assertEqual(session, Session(((5, 1),)))
        self.assertEqual(session.contents, ((5, 1),))
        self.assert_nothing_to_undo(session, "ann")
        self.assertEqual(session, Session(((5, 1),)))

    def test_an_undo_that_would_make_a_later_entry_fail(self):
        session = Session(((5, 1),))
        session.run("ann", (("insert", 3, 1),))
        session.run("bo", (("insert", 4, 2),))
        session.run("c", (("remove", 3),))
        session.run("ann", (("insert", 9, 1),))
        session.run("c", (("remove", 2),))
        before = state(session)
        # Without the nine, entry 3, which is then the second one of c, fails.
        self.assert_error(EmptyHeap, "index", 3, session.undo, "ann")
        # Without the fours, the first one of c is entry 1.
        self.assert_error(EmptyHeap, "index", 1, session.undo, "bo")
        self.assertEqual(state(session), before)
        self.assertEqual(session.undo("c"), (("remove", 2),))
        self.assertEqual(session.undo("c"), (("remove", 3),))
        self.assertEqual(session.undo("bo"), (("insert", 4, 2),))
        self.assertEqual(session.contents, ((3, 1), (5, 1), (9, 1)))
        self.assertEqual(session.entries, [("ann", (("insert", 3, 1),)), ("ann", (("insert", 9, 1),))])

    def test_new_entries_after_an_undo(self):
        session = Session()
        session.run("ann", (("insert", 3, HUGE),))
        session.run("bo", (("insert", 2, HUGE), ("remove", 1)))
        session.undo("ann")
        self.assertEqual(session.contents, ((2, HUGE - 1),))
        session.run("ann", (("remove", HUGE - 1),))
        self.assertEqual(session.contents, ())
        self.assert_error(EmptyHeap, "index", 0, session.undo, "bo")
        session.undo("ann")
        session.undo("bo")
        self.assertEqual((session.contents, session.entries), ((), []))

    def test_many_entries(self):
        session = Session()
        for number in range(400):
            session.run(USERS[number % 2], (("insert", number % 9, 2), ("remove", 1)))
        for _ in range(200):
            session.undo("bo")
        entries = [("ann", (("insert", number % 9, 2), ("remove", 1))) for number in range(0, 400, 2)]
        self.assertEqual(session.entries, entries)
        self.assertEqual(session.contents, after((), session.entries))


class Others(ErrorCase):
    """Session.effect, Session.copy, properties and equality."""

    def session(self):
        session = Session(((5, 1),))
        session.run("ann", BODY)
        session.run("bo", (("insert", 4, 2),))
        session.run("ann", (("remove", 2), ("insert", 1, 1)))
        return session

    def test_effects(self):
        session = self.session()
        effect = session.effect(user="ann")
        self.assertIs(type(effect), Effect)
        self.assertEqual(effect, Effect.of(BODY + (("remove", 2), ("insert", 1, 1))))
        self.assertEqual(session.effect("bo"), Effect(((4, 2),), 0, ((4, 2),)))
        self.assertEqual(session.effect("c"), Effect.identity())
        session.undo("ann")
        self.assertEqual(session.effect("ann"), Effect.of(BODY))
        session.run("ann", LOOP)
        self.assertEqual(session.effect("ann"), Effect.of(BODY + LOOP))

    def test_copies_are_independent(self):
        session = self.session()
        twin = session.copy()
        self.assertIs(type(twin), Session)
        self.assertIsNot(twin, session)
        self.assertEqual(twin, session)
        before = state(session)
        twin.run("c", (("insert", 2, 1),))
        twin.undo("ann")
        self.assertEqual(state(session), before)
        self.assertNotEqual(twin, session)
        twin = session.copy()
        session.undo("bo")
        session.undo("ann")
        session.run("c", ())
        self.assertEqual(state(twin), before)
        self.assertEqual(twin, self.session())
        self.assertEqual(Session(((5, 1),)).copy(), Session(((5, 1),)))

    def test_a_copy_and_its_original_go_on(self):
        session = self.session()
        twin = session.copy()
        twin.run("c", (("insert", 2, 1),))
        session.run("c", (("insert", 8, 3),))
        twin.run("c", (("remove", 1),))
        for one, program in ((session, (("insert", 8, 3),)), (twin, (("insert", 2, 1), ("remove", 1)))):
            self.assertEqual(one.effect("c"), Effect.of(program))
            self.assertEqual(one.contents, Effect.of(program).apply(self.session().contents))
            one.undo("bo")
            self.assertEqual(one.contents, after(((5, 1),), one.entries))

    def test_equality(self):
        sessions = [Session(), Session(((5, 1),)), self.session()]
        for entries in ([("ann", BODY)], [("bo", BODY)], [("ann", LOOP)], [("ann", ())], [("ann", ()), ("ann", ())],
                        [("ann", ()), ("bo", ())], [("bo", ()), ("ann", ())]):
            for start in ((), ((5, 1),)):
                sessions.append(Session(start))
                for entry in entries:
                    sessions[-1].run(*entry)
        for at, session in enumerate(sessions):
            for place, other in enumerate(sessions):
                self.assertIs(session == other, at == place)
                self.assertIs(session != other, at != place)

    def test_equal_contents_are_not_enough(self):
        one, other = Session(((5, 1),)), Session()
        other.run("ann", (("insert", 5, 1),))
        self.assertEqual(one.contents, other.contents)
        self.assertNotEqual(one, other)
        # The same effect by another program is another entry.
        one, other = Session(), Session()
        one.run("ann", (("insert", 5, 2),))
        other.run("ann", (("repeat", 2, (("insert", 5, 1),)),))
        self.assertNotEqual(one, other)
        # What was undone does not count.
        one.undo("ann")
        self.assertEqual(one, Session())

    def test_other_values(self):
        for other in NOT_EFFECTS + (Heap(), Effect.identity(), Session, [], ()):
            self.assertFalse(Session() == other)
            self.assertTrue(Session() != other)

    def test_a_changed_list_changes_nothing(self):
        session = self.session()
        before = state(session)
        session.entries.clear()
        session.entries.append(("ann", ()))
        entries = session.entries
        entries[0] = ("bo", ())
        self.assertEqual(state(session), before)
        self.assertEqual(session, self.session())


class General(ErrorCase):
    """[2], [3] (i), [17]: users, wrong arguments and their order, moved numbers."""

    def test_users(self):
        session = Session()
        for user in ("a", "z", "abcdefgh", "zzzzzzzz", "insert", "no", "qwertyui"):
            session.run(user, (("insert", 5, 1),))
            self.assertEqual(session.effect(user).inserted, ((5, 1),))
            self.assertEqual(session.entries[-1], (user, (("insert", 5, 1),)))
        self.assertEqual(session.undo("abcdefgh"), (("insert", 5, 1),))

    def test_wrong_users(self):
        session = Session(((5, 1),))
        session.run("ann", BODY)
        before = state(session)
        for wrong in NOT_USERS:
            self.assert_error(InvalidUser, "value", wrong, session.run, wrong, BODY)
            self.assert_error(InvalidUser, "value", wrong, session.run, wrong, HOSTILE)
            self.assert_error(InvalidUser, "value", wrong, session.undo, wrong)
            self.assert_error(InvalidUser, "value", wrong, session.effect, wrong)
            self.assertEqual(state(session), before)

    def test_wrong_programs(self):
        session = Session(((5, 1),))
        session.run("ann", BODY)
        before = state(session)
        for wrong, path in NOT_PROGRAMS:
            self.assert_error(InvalidProgram, "path", path, session.run, "ann", wrong)
            self.assertEqual(state(session), before)
        # A program that is none comes before one that fails.
        self.assert_error(InvalidProgram, "path", (1,), session.run, "ann", (("remove", 99), ("remove", -1)))

    def test_wrong_bags(self):
        for wrong in NOT_BAGS:
            self.assert_error(InvalidBag, "value", wrong, Session, wrong)

    def test_results_move_along(self):
        source = random.Random(3)
        for _ in range(30):
            for by in (-4, HUGE):
                start = ((0, 3), (5, 9))
                session, far = Session(start), Session(by_hand.moved(start, by))
                for _ in range(5):
                    user, program = source.choice(USERS), by_hand.random_program(source, (-1, 2, 4), 3, 2)
                    if isinstance(after(start, session.entries + [(user, program)]), tuple):
                        removed = session.run(user, program)
                        self.assertEqual(far.run(user, by_hand.moved_program(program, by)), by_hand.moved(removed, by))
                self.assertEqual(far.contents, by_hand.moved(session.contents, by))
                for user in USERS:
                    self.assertEqual(far.effect(user), session.effect(user).moved(by))


if __name__ == "__main__":
    unittest.main()
