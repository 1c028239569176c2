"""[80] boards, their looks and guards, [81] undo, redo and trials."""

import random
import unittest

from agewords.boards import Board
from agewords.errors import AgeError, Busy, Clash, NothingLeft, NotKept, Unsteady
from agewords.looks import events
from tests import modelled, played
from tests.walked import built, label_of

GREAT = 10 ** 30
ONE, OTHER = 10 ** 30 - 1, 10 ** 30 - 11

USUAL = [(60, None, "down", "now"), (3600, 60, "down", "m"), (None, 3600, "near", "h")]
BACK = [(600, 60, "down", "m"), (None, 120, "down", "m")]
NEVER = (("q", None), ("m", None), ("now", 0), ("m", -1), ("h", -7), ("", 5))


def minutes():
    """A board with looks that tell minutes alone."""
    return Board(built([(None, 60, "down", "m")]))


def state(board):
    """All that a board tells of itself."""
    things = [(name, board.looks(name), board.events(name)) for name in board.names]
    return (board.names, things, board.guards, board.undoable, board.redoable)


class Leave(Exception):
    """What leaves a trial in these tests."""


class BoardCase(unittest.TestCase):

    def refused(self, board, error, fields, call, *arguments):
        """Hold that a call raises this very error and changes nothing; all is told twice."""
        before = state(board)
        for _ in range(2):
            with self.assertRaises(AgeError) as caught:
                call(*arguments)
            self.assertIs(type(caught.exception), error)
            self.assertEqual(vars(caught.exception), fields)
            self.assertEqual(state(board), before)


class Looks(BoardCase):

    def test_a_new_board(self):
        wording = built(USUAL)
        board = Board(wording)
        self.assertEqual(state(board), ((), [], (), 0, 0))
        self.assertEqual(board.wording, wording)
        self.assertEqual([type(board.names), type(board.guards)], [tuple, tuple])

    def test_unsteady(self):
        with self.assertRaises(Unsteady) as caught:
            Board(built(BACK))
        self.assertEqual(caught.exception.age, 600)

    def test_put(self):
        board = minutes()
        self.assertIsNone(board.put("b", 1000, ("m", 2)))
        self.assertEqual(state(board), (("b",), [("b", ((1000, ("m", 2)),), (821, 880))], (), 1, 0))
        self.assertIsNone(board.put("b", 1100, ("m", 3)))
        board.put("b", 1000, ("m", 2))
        board.put("a", -5, None)
        self.assertEqual(board.names, ("a", "b"))
        self.assertEqual(board.looks("b"), ((1000, ("m", 2)), (1100, ("m", 3)), (1000, ("m", 2))))
        self.assertEqual((board.events("b"), board.events("a")), ((861, 880), (-4, None)))
        self.assertEqual((board.undoable, board.redoable), (4, 0))

    def test_names_ascend(self):
        board = minutes()
        names = ["tea", "te", "zebra", "a", "twelveletter", "b"]
        for name in names:
            board.put(name, 0, None)
            self.assertEqual(board.names, tuple(sorted(names[:names.index(name) + 1])))

    def test_put_clash(self):
        board = minutes()
        board.put("a", 1000, ("m", 2))
        board.put("a", 1100, ("m", 3))
        self.refused(board, Clash, {"first": 1, "second": 2}, board.put, "a", 1200, ("m", 6))
        self.refused(board, Clash, {"first": 1, "second": 2}, board.put, "a", 1000, ("m", 3))
        for label in NEVER[:4]:
            self.refused(board, Clash, {"first": 2, "second": 2}, board.put, "a", 0, label)
            self.refused(board, Clash, {"first": 0, "second": 0}, board.put, "new", 0, label)
        board.put("b", 1000, ("m", 3))
        self.assertEqual(board.names, ("a", "b"))

    def test_clash_as_events(self):
        chance = random.Random(800)
        clashes = 0
        for rows in played.steady_small(801, 150):
            board, wording = Board(built(rows)), built(rows)
            for _ in range(12):
                moment = chance.randint(-20, 20)
                label = chance.choice(NEVER + (None,) + tuple(label_of(rows, chance.randint(0, 40)) for _ in range(9)))
                looks = list(board.looks("a")) if board.names else []
                try:
                    events(wording, looks + [(moment, label)])
                except Clash as clash:
                    self.refused(board, Clash, vars(clash), board.put, "a", moment, label)
                    clashes += 1
                else:
                    board.put("a", moment, label)
                    self.assertEqual(board.events("a"), events(wording, board.looks("a")))
        self.assertGreater(clashes, 200)

    def test_drop(self):
        board = minutes()
        for moment, count in ((1000, 2), (1100, 3), (1060, 3)):
            board.put("a", moment, ("m", count))
        self.assertIsNone(board.drop("a", 1))
        self.assertEqual(board.looks("a"), ((1000, ("m", 2)), (1060, ("m", 3))))
        self.assertEqual((board.events("a"), board.undoable), ((821, 880), 4))
        board.drop("a", 1)
        board.drop("a", 0)
        self.assertEqual((board.names, board.undoable, board.redoable), ((), 6, 0))

    def test_drop_nothing(self):
        board = minutes()
        self.refused(board, NothingLeft, {}, board.drop, "a", 0)
        board.put("a", 1000, ("m", 2))
        board.put("a", 1000, ("m", 2))
        for index in (-1, -2, -3, 2, 3, GREAT, -GREAT):
            self.refused(board, NothingLeft, {}, board.drop, "a", index)
        self.refused(board, NothingLeft, {}, board.drop, "b", 0)

    def test_no_such_thing(self):
        board = minutes()
        board.put("a", 1000, ("m", 2))
        for name in ("b", "aa"):
            self.refused(board, NothingLeft, {}, board.looks, name)
            self.refused(board, NothingLeft, {}, board.events, name)
        board.drop("a", 0)
        self.refused(board, NothingLeft, {}, board.looks, "a")
        self.refused(board, NothingLeft, {}, board.events, "a")

    def test_great(self):
        board = Board(built([(GREAT, 1, "down", "s"), (None, ONE, "near", "h")]))
        board.put("a", -GREAT, ("s", ONE))
        self.assertEqual(board.events("a"), (1 - 2 * GREAT, 1 - 2 * GREAT))
        board.keep(("known", "a", 1))
        board.put("b", 3 * GREAT, ("h", 3))
        board.keep(("known", "b", ONE))
        board.keep(("before", "a", "b"))
        self.refused(board, NotKept, {"guard": ("known", "b", ONE - 1)}, board.keep, ("known", "b", ONE - 1))
        low, high = 3 * GREAT - 3 * ONE - ONE // 2, 3 * GREAT - 3 * ONE + ONE // 2
        self.assertEqual(board.events("b"), (low, high))
        board.keep(("within", "b", low, high))
        self.refused(board, Clash, {"first": 0, "second": 1}, board.put, "b", 3 * GREAT - ONE, ("h", 3))

    def test_many_things_and_looks(self):
        board = minutes()
        for number in range(300):
            board.put("abcdefghij"[number // 100] + "abcdefghij"[number // 10 % 10] + "abcdefghij"[number % 10],
                      number, ("m", 0))
        for moment in range(600):
            board.put("thing", moment, ("m", moment // 60))
        self.assertEqual((len(board.names), len(board.looks("thing")), board.undoable), (301, 600, 900))
        self.assertEqual(board.events("thing"), (0, 0))
        for _ in range(900):
            board.undo()
        self.assertEqual((board.names, board.redoable), ((), 900))


class Guards(BoardCase):

    def board(self):
        """Things early (821 to 880), late (941 to 1000), yet (1001 and later), once (-60 and earlier)."""
        board = Board(built([(60, None, "down", "now"), (600, 60, "down", "m"), (None, None, "down", "old")]))
        board.put("early", 1000, ("m", 2))
        board.put("late", 1000, ("now", None))
        board.put("yet", 1000, None)
        board.put("once", 540, ("old", None))
        self.assertEqual([board.events(name) for name in ("early", "late", "yet", "once")],
                         [(821, 880), (941, 1000), (1001, None), (None, -60)])
        return board

    def hold(self, kept, broken):
        board = self.board()
        for guard in broken:
            self.refused(board, NotKept, {"guard": guard}, board.keep, guard)
        for guard in kept:
            self.assertIsNone(board.keep(guard))
        self.assertEqual(board.guards, tuple(kept))
        self.assertEqual((board.undoable, board.redoable), (4, 0))

    def test_before(self):
        before = [("early", "late"), ("early", "yet"), ("late", "yet"), ("once", "early"), ("once", "late"), ("once", "yet")]
        names = ("early", "late", "yet", "once")
        others = [(one, other) for one in names for other in names if (one, other) not in before]
        self.hold([("before",) + pair for pair in before], [("before",) + pair for pair in others])

    def test_before_is_surely(self):
        board = minutes()
        board.put("a", 0, ("m", 0))
        board.put("b", 59, ("m", 0))
        self.refused(board, NotKept, {"guard": ("before", "a", "b")}, board.keep, ("before", "a", "b"))
        board.put("c", 60, ("m", 0))
        board.keep(("before", "a", "c"))

    def test_within(self):
        self.hold([("within", "early", 821, 880), ("within", "early", None, 880), ("within", "early", 821, None),
                   ("within", "early", None, None), ("within", "early", -GREAT, GREAT), ("within", "yet", 1001, None),
                   ("within", "yet", None, None), ("within", "once", None, -60), ("within", "once", None, None)],
                  [("within", "early", 822, 880), ("within", "early", 821, 879), ("within", "early", None, 879),
                   ("within", "early", 822, None), ("within", "yet", 1002, None), ("within", "yet", 1001, GREAT),
                   ("within", "yet", None, 1001), ("within", "once", -GREAT, -60), ("within", "once", None, -61),
                   ("within", "once", -60, None), ("within", "early", 880, 821)])

    def test_known(self):
        self.hold([("known", "early", 60), ("known", "early", 61), ("known", "late", GREAT)],
                  [("known", "early", 59), ("known", "early", 1), ("known", "yet", GREAT), ("known", "once", GREAT)])

    def test_a_guard_about_a_thing_that_there_is_not(self):
        self.hold([], [("before", "early", "no"), ("before", "no", "early"), ("before", "no", "none"),
                       ("within", "no", None, None), ("known", "no", GREAT)])

    def test_put_and_guards(self):
        board = self.board()
        board.keep(("within", "early", 821, 880))
        board.keep(("known", "late", 60))
        board.put("early", 1030, ("m", 2))
        self.assertEqual(board.events("early"), (851, 880))
        board.keep(("known", "early", 30))
        board.put("other", 0, None)
        self.assertEqual((board.undoable, len(board.guards)), (6, 3))

    def test_a_put_never_widens_but_clash_comes_first(self):
        board = minutes()
        board.put("a", 1000, ("m", 2))
        board.keep(("known", "a", 60))
        self.refused(board, Clash, {"first": 0, "second": 1}, board.put, "a", 1000, ("m", 3))
        self.refused(board, Clash, {"first": 1, "second": 1}, board.put, "a", 1000, ("q", 3))

    def test_drop_and_guards(self):
        board = minutes()
        board.put("a", 1000, ("m", 2))
        board.put("a", 1030, ("m", 2))
        first, second, third = ("within", "a", 821, 880), ("known", "a", 30), ("within", "a", 851, None)
        board.keep(first)
        board.keep(second)
        board.keep(third)
        self.refused(board, NotKept, {"guard": second}, board.drop, "a", 1)
        self.refused(board, NotKept, {"guard": first}, board.drop, "a", 0)
        self.refused(board, NothingLeft, {}, board.drop, "a", 2)
        board.free(second)
        self.refused(board, NotKept, {"guard": third}, board.drop, "a", 1)
        board.free(third)
        board.drop("a", 1)
        self.assertEqual(board.events("a"), (821, 880))

    def test_the_last_look_of_a_thing_with_a_guard(self):
        for guard in (("within", "a", None, None), ("known", "a", 60), ("before", "a", "b"), ("before", "b", "a")):
            board = minutes()
            board.put("a", 1000, ("m", 2))
            board.put("b", 1000, ("m", 1 if guard[1] == "a" else 3))
            board.keep(guard)
            self.refused(board, NotKept, {"guard": guard}, board.drop, "a", 0)
            board.free(guard)
            board.drop("a", 0)
            self.assertEqual(board.names, ("b",))

    def test_the_first_guard_that_is_broken(self):
        board = minutes()
        board.put("a", 1000, ("m", 2))
        guards = [("known", "a", 60), ("within", "a", None, None), ("known", "a", 99)]
        for guard in guards:
            board.keep(guard)
        for guard in guards:
            self.refused(board, NotKept, {"guard": guard}, board.drop, "a", 0)
            self.refused(board, NotKept, {"guard": guard}, board.undo)
            board.free(guard)
        board.drop("a", 0)

    def test_free(self):
        board = minutes()
        board.put("a", 1000, ("m", 2))
        one, other = ("known", "a", 60), ("within", "a", 800, None)
        self.refused(board, NothingLeft, {}, board.free, one)
        for guard in (one, other, one):
            board.keep(guard)
        self.assertEqual(board.guards, (one, other, one))
        self.refused(board, NothingLeft, {}, board.free, ("known", "a", 61))
        self.refused(board, NothingLeft, {}, board.free, ("known", "b", 60))
        self.refused(board, NothingLeft, {}, board.free, ("within", "a", None, 800))
        self.assertIsNone(board.free(("known", "a", 60)))
        self.assertEqual(board.guards, (other, one))
        board.free(one)
        board.free(other)
        self.assertEqual((board.guards, board.undoable, board.redoable), ((), 1, 0))
        self.refused(board, NothingLeft, {}, board.free, one)


class Changes(BoardCase):

    def test_undo_and_redo(self):
        board = minutes()
        states = [state(board)[:2]]
        board.put("a", 1000, ("m", 2))
        states.append(state(board)[:2])
        board.put("a", 1030, ("m", 2))
        states.append(state(board)[:2])
        board.put("b", 7, None)
        states.append(state(board)[:2])
        board.drop("a", 0)
        states.append(state(board)[:2])
        board.drop("b", 0)
        states.append(state(board)[:2])
        for _ in range(2):
            for number in range(4, -1, -1):
                self.assertIsNone(board.undo())
                self.assertEqual(state(board), states[number] + ((), number, 5 - number))
            self.refused(board, NothingLeft, {}, board.undo)
            for number in range(1, 6):
                self.assertIsNone(board.redo())
                self.assertEqual(state(board), states[number] + ((), number, 5 - number))
            self.refused(board, NothingLeft, {}, board.redo)

    def test_undo_puts_a_look_back_where_it_was(self):
        board = minutes()
        looks = tuple([(moment, ("m", 0)) for moment in (5, 3, 3, 9, 1)])
        for look in looks:
            board.put("a", *look)
        for index in range(5):
            board.drop("a", index)
            self.assertEqual(board.looks("a"), looks[:index] + looks[index + 1:])
            board.undo()
            self.assertEqual(board.looks("a"), looks)
            self.assertEqual(board.events("a"), (-50, 1))

    def test_nothing(self):
        board = minutes()
        self.refused(board, NothingLeft, {}, board.undo)
        self.refused(board, NothingLeft, {}, board.redo)
        board.put("a", 0, None)
        self.refused(board, NothingLeft, {}, board.redo)

    def test_after_a_change_nothing_can_be_redone(self):
        for change in (lambda board: board.put("c", 0, None), lambda board: board.drop("a", 0)):
            board = minutes()
            board.put("a", 0, None)
            board.put("b", 0, None)
            board.undo()
            self.assertEqual((board.undoable, board.redoable), (1, 1))
            change(board)
            self.assertEqual((board.undoable, board.redoable), (2, 0))
            self.refused(board, NothingLeft, {}, board.redo)

    def test_a_refused_change_leaves_what_can_be_redone(self):
        board = minutes()
        board.put("a", 1000, ("m", 2))
        board.keep(("known", "a", 60))
        board.put("b", 0, None)
        board.undo()
        self.refused(board, Clash, {"first": 0, "second": 1}, board.put, "a", 1000, ("m", 5))
        self.refused(board, NotKept, {"guard": ("known", "a", 60)}, board.drop, "a", 0)
        self.refused(board, NothingLeft, {}, board.drop, "a", 1)
        board.redo()
        self.assertEqual(board.names, ("a", "b"))

    def test_keep_and_free_are_no_changes(self):
        board = minutes()
        board.put("a", 1000, ("m", 2))
        board.put("b", 0, None)
        board.undo()
        guard = ("known", "a", 60)
        board.keep(guard)
        self.assertEqual((board.undoable, board.redoable), (1, 1))
        board.redo()
        self.assertEqual((board.guards, board.undoable, board.redoable), ((guard,), 2, 0))
        board.undo()
        board.free(guard)
        self.assertEqual((board.guards, board.undoable, board.redoable), ((), 1, 1))
        board.undo()
        self.assertEqual((board.guards, board.names), ((), ()))

    def test_undo_and_guards(self):
        board = minutes()
        board.put("a", 1000, ("m", 2))
        board.put("a", 1030, ("m", 2))
        other, guard = ("within", "a", None, 880), ("known", "a", 30)
        board.keep(other)
        board.keep(guard)
        self.refused(board, NotKept, {"guard": guard}, board.undo)
        board.free(guard)
        board.undo()
        self.refused(board, NotKept, {"guard": other}, board.undo)
        self.refused(board, NotKept, {"guard": guard}, board.keep, guard)
        board.redo()
        board.keep(guard)

    def test_redo_and_guards(self):
        board = minutes()
        board.put("a", 1000, ("m", 2))
        board.put("a", 1030, ("m", 2))
        board.drop("a", 1)
        board.undo()
        guard = ("within", "a", 851, 880)
        board.keep(guard)
        self.refused(board, NotKept, {"guard": guard}, board.redo)
        board.free(guard)
        board.redo()
        self.assertEqual(board.events("a"), (821, 880))


class Tried(BoardCase):

    def board(self):
        board = minutes()
        board.put("a", 1000, ("m", 2))
        board.put("b", 1000, ("m", 1))
        board.put("b", 0, None)
        board.undo()
        board.keep(("known", "a", 60))
        return board

    def test_what_the_action_tells(self):
        board = self.board()
        thing = [1]
        self.assertIs(board.tried(lambda given: thing), thing)
        self.assertIsNone(board.tried(lambda given: None))
        self.assertIs(board.tried(lambda given: given), board)

    def test_all_is_as_before(self):
        board = self.board()
        before = state(board)

        def action(given):
            given.put("a", 1030, ("m", 2))
            given.put("c", 7, ("m", 0))
            given.free(("known", "a", 60))
            given.keep(("known", "a", 30))
            given.drop("b", 0)
            return state(given)

        inside = board.tried(action)
        self.assertEqual(inside[0], ("a", "c"))
        self.assertEqual(inside[1][0], ("a", ((1000, ("m", 2)), (1030, ("m", 2))), (851, 880)))
        self.assertEqual(inside[2:], ((("known", "a", 30),), 5, 0))
        self.assertEqual(state(board), before)
        board.redo()
        self.assertEqual(board.looks("b"), ((1000, ("m", 1)), (0, None)))
        board.undo()
        board.undo()
        self.assertEqual(board.names, ("a",))
        self.refused(board, NotKept, {"guard": ("known", "a", 60)}, board.undo)

    def test_an_error_goes_on(self):
        board = self.board()
        before = state(board)
        for error in (Leave("out"), KeyboardInterrupt(), Clash(3, 4)):
            def action(given):
                given.drop("b", 0)
                raise error

            with self.assertRaises(type(error)) as caught:
                board.tried(action)
            self.assertIs(caught.exception, error)
            self.assertEqual(state(board), before)
        with self.assertRaises(NotKept) as refused:
            board.tried(lambda given: given.drop("a", 0))
        self.assertEqual(refused.exception.guard, ("known", "a", 60))
        self.assertEqual(state(board), before)
        board.redo()
        self.assertEqual(board.redoable, 0)

    def test_busy_first_of_all(self):
        board = self.board()

        def action(given):
            self.refused(given, Busy, {}, given.undo)
            self.refused(given, Busy, {}, given.redo)
            given.put("c", 0, None)
            self.assertEqual((given.undoable, given.redoable), (3, 0))
            self.refused(given, Busy, {}, given.undo)
            self.refused(given, Busy, {}, given.redo)

        board.tried(action)
        empty = minutes()
        empty.tried(lambda given: self.refused(given, Busy, {}, given.undo))
        empty.tried(lambda given: self.refused(given, Busy, {}, given.redo))
        self.refused(empty, NothingLeft, {}, empty.undo)
        self.refused(empty, NothingLeft, {}, empty.redo)
        kept = minutes()
        kept.put("a", 0, ("m", 0))
        kept.keep(("known", "a", 60))
        kept.tried(lambda given: self.refused(given, Busy, {}, given.undo))
        self.refused(kept, NotKept, {"guard": ("known", "a", 60)}, kept.undo)

    def test_undoable_and_redoable_go_on_counting(self):
        board = self.board()

        def action(given):
            told = [(given.undoable, given.redoable)]
            given.keep(("known", "b", 60))
            told.append((given.undoable, given.redoable))
            given.put("c", 0, None)
            told.append((given.undoable, given.redoable))
            given.drop("c", 0)
            told.append((given.undoable, given.redoable))
            return told

        self.assertEqual(board.tried(action), [(2, 1), (2, 1), (3, 0), (4, 0)])
        self.assertEqual((board.undoable, board.redoable), (2, 1))

    def test_trials_within_trials(self):
        board = self.board()
        before = state(board)

        def inner(given):
            given.put("d", 0, None)
            given.drop("c", 0)
            self.refused(given, Busy, {}, given.undo)
            raise Leave()

        def outer(given):
            given.put("c", 0, None)
            middle = state(given)
            for _ in range(2):
                with self.assertRaises(Leave):
                    given.tried(inner)
                self.assertEqual(state(given), middle)
                self.refused(given, Busy, {}, given.undo)
                self.refused(given, Busy, {}, given.redo)
            given.put("e", 0, None)
            return given.names

        self.assertEqual(board.tried(outer), ("a", "b", "c", "e"))
        self.assertEqual(state(board), before)
        board.redo()
        board.undo()

    def test_many_trials_within_one_another(self):
        board = minutes()

        def action(given):
            given.put("a", 0, None)
            if given.undoable < 100:
                return given.tried(action)
            return given.undoable

        self.assertEqual(board.tried(action), 100)
        self.assertEqual(state(board), ((), [], (), 0, 0))

    def test_another_board_is_not_busy(self):
        board, other = self.board(), self.board()

        def action(given):
            other.redo()
            other.undo()
            other.put("z", 0, None)

        board.tried(action)
        self.assertEqual(other.names, ("a", "b", "z"))
        self.assertEqual(board.names, ("a", "b"))


class Histories(BoardCase):
    """Boards with a plain model played beside them."""

    NAMES = ("a", "b", "c")

    def same(self, board, model):
        self.assertEqual(board.names, tuple(sorted(model.things)))
        self.assertEqual(board.guards, tuple(model.guards))
        self.assertEqual((board.undoable, board.redoable), (len(model.past), len(model.future)))
        for name in board.names:
            self.assertEqual(board.looks(name), model.looks(name))
            self.assertEqual(board.events(name), model.events(name))

    def step(self, chance, board, model, call, arguments):
        """One call of both; tells what came of it."""
        try:
            told = getattr(model, call)(*arguments)
        except modelled.Refused as refused:
            with self.assertRaises(AgeError) as caught:
                getattr(board, call)(*arguments)
            self.assertEqual(type(caught.exception).__name__, refused.name, (call, arguments))
            fields = tuple(vars(caught.exception).values())
            self.assertIn(fields[0] if refused.name == "NotKept" else fields, refused.fields)
            return refused.name
        self.assertEqual(getattr(board, call)(*arguments), told)
        return "told"

    def drawn_label(self, chance, model, events_of_names, name, moment):
        if chance.random() < 0.05:
            return chance.choice(NEVER)
        event = events_of_names[name] if chance.random() < 0.85 else chance.randint(-40, 40)
        return model.labels[moment - event] if event <= moment else None

    def drawn_guard(self, chance, model, events_of_names):
        name = chance.choice(self.NAMES)
        kind = chance.randint(0, 2)
        if name in model.things and chance.random() < 0.6:
            # A guard that holds now, but breaks as soon as less is known.
            low, high = model.events(name)
            return ("within", name, low, high) if None in (low, high) else ("known", name, high - low + 1)
        if kind == 0:
            return ("before", name, chance.choice(self.NAMES))
        if kind == 1:
            event = events_of_names[name]
            return ("within", name, chance.choice((None, event - chance.randint(0, 20))),
                    chance.choice((None, event + chance.randint(0, 20))))
        return ("known", name, chance.randint(1, 25))

    def drawn_call(self, chance, model, events_of_names, call):
        call = call or chance.choice(("put",) * 5 + ("drop",) * 3 + ("keep",) * 2 + ("free",) * 2 + ("undo",) * 3
                                     + ("redo",) * 2 + ("looks", "events"))
        name = chance.choice(self.NAMES)
        if call == "put":
            moment = chance.randint(-40, 60)
            return call, (name, moment, self.drawn_label(chance, model, events_of_names, name, moment))
        if call == "drop":
            return call, (name, chance.randint(-1, len(model.things.get(name, []))))
        if call == "keep":
            return call, (self.drawn_guard(chance, model, events_of_names),)
        if call == "free":
            if model.guards and chance.random() < 0.7:
                return call, (chance.choice(model.guards),)
            return call, (self.drawn_guard(chance, model, events_of_names),)
        return call, ((name,) if call in ("looks", "events") else ())

    def play(self, chance, board, model, events_of_names, steps, tally):
        coming = []
        for _ in range(steps):
            if chance.random() < 0.06 and model.trials < 4:
                self.trial(chance, board, model, events_of_names, tally)
                continue
            call, arguments = self.drawn_call(chance, model, events_of_names, coming.pop() if coming else None)
            before = state(board)
            answer = self.step(chance, board, model, call, arguments)
            if answer != "told":
                self.assertEqual(state(board), before)
            self.same(board, model)
            tally[(call, answer)] = tally.get((call, answer), 0) + 1
            if (call, answer) == ("drop", "told") and chance.random() < 0.3:
                # So guards come between a change and its coming again.
                coming = ["redo", "keep", "keep", "undo"]

    def trial(self, chance, board, model, events_of_names, tally):
        saved = model.saved()
        model.trials += 1
        leave, given_back = chance.random() < 0.4, object()

        def action(given):
            self.assertIs(given, board)
            self.play(chance, given, model, events_of_names, chance.randint(0, 12), tally)
            if leave:
                raise Leave()
            return given_back

        if leave:
            with self.assertRaises(Leave):
                board.tried(action)
        else:
            self.assertIs(board.tried(action), given_back)
        model.restored(saved)
        self.same(board, model)
        key = ("tried", model.trials)
        tally[key] = tally.get(key, 0) + 1

    def test_long_histories(self):
        chance = random.Random(810)
        tally = {}
        for rows in played.steady_small(811, 60):
            board, model = Board(built(rows)), modelled.Model(rows)
            events_of_names = {name: chance.randint(-40, 40) for name in self.NAMES}
            self.play(chance, board, model, events_of_names, 200, tally)
        for call, answers in (("put", ("told", "Clash")), ("drop", ("told", "NotKept", "NothingLeft")),
                              ("keep", ("told", "NotKept")), ("free", ("told", "NothingLeft")),
                              ("undo", ("told", "NotKept", "NothingLeft", "Busy")),
                              ("redo", ("told", "NotKept", "NothingLeft", "Busy")), ("tried", (0, 1, 2))):
            for answer in answers:
                self.assertGreater(tally.get((call, answer), 0), 30, (call, answer, tally))


class Arguments(BoardCase):

    def test_by_name(self):
        board = Board(wording=built([(None, 60, "down", "m")]))
        board.put(label=("m", 2), moment=1000, name="a")
        board.put(name="a", moment=1030, label=("m", 2))
        board.drop(index=1, name="a")
        board.keep(guard=("known", "a", 60))
        board.free(guard=("known", "a", 60))
        self.assertEqual(board.looks(name="a"), ((1000, ("m", 2)),))
        self.assertEqual(board.events(name="a"), (821, 880))
        self.assertEqual(board.tried(action=lambda given: given.names), ("a",))

    def test_kinds_of_what_is_told(self):
        board = minutes()
        board.put("a", 1000, ("m", 2))
        board.keep(("known", "a", 60))
        for told in (board.names, board.guards, board.looks("a"), board.looks("a")[0], board.events("a")):
            self.assertIs(type(told), tuple)
        self.assertEqual([type(board.undoable), type(board.redoable)], [int, int])

    def test_boards_are_apart(self):
        wording = built(USUAL)
        one, other = Board(wording), Board(wording)
        one.put("a", 0, None)
        self.assertEqual((one.names, other.names, other.undoable), (("a",), (), 0))

    def test_what_was_told_does_not_change(self):
        board = minutes()
        board.put("a", 1000, ("m", 2))
        told = (board.names, board.looks("a"), board.guards)
        board.put("b", 0, None)
        board.put("a", 1030, ("m", 2))
        board.keep(("known", "a", 30))
        self.assertEqual(told, (("a",), ((1000, ("m", 2)),), ()))

    def test_the_same_is_told_twice(self):
        boards = [minutes(), minutes()]
        for board in boards:
            for moment, count in ((1000, 2), (1030, 2), (1100, 3)):
                board.put("a", moment, ("m", count))
        self.assertEqual(state(boards[0]), state(boards[1]))
        raised = []
        for board in boards + boards:
            with self.assertRaises(Clash) as caught:
                board.put("a", 0, ("m", 3))
            raised.append(vars(caught.exception))
        self.assertEqual(raised, raised[:1] * 4)

    def test_what_is_told_may_be_passed_on_however_great(self):
        board = Board(built([(None, ONE, "near", "h")]))
        moment = GREAT
        for _ in range(60):
            board.put("a", moment, ("h", moment))
            low, high = board.events("a")
            board.keep(("within", "a", low, high))
            board.free(("within", "a", low, high))
            board.drop("a", 0)
            moment = high - low - low
        self.assertGreater(moment, 10 ** 1500)


if __name__ == "__main__":
    unittest.main()
