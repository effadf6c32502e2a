"""Points [60] and [61], and point [3] for them."""

import copy
import itertools
import unittest

from mergelevels.boards import Board, NestedBoard
from mergelevels.errors import (
    BatchFailed, Busy, InvalidBatch, InvalidLevel, MergeError, NoSuchItem, NoSuchStep, TooManyActions,
)
from tests.board_samples import BOTH, BoardChecks, tables_for, whole_state
from tests.samples import ANY_VALUES, T, TOP, U


class TestRun(unittest.TestCase, BoardChecks):
    STEPS = (("drop", 0), ("add", (3, 3, 3)), ("change", 0, 1, 2), ("drop", 3), ("change", 0, 2, 3))

    def test_example(self):
        board = Board(T)
        before = whole_state(board)[:-1]
        self.assert_error(BatchFailed, {"index": 1}, board.run, [("drop", 0), ("drop", 3)])
        self.assertEqual(whole_state(board)[:-1], before)
        self.assertEqual(board.log(), (("begin", 2), ("end", 0)))

    def test_the_actions_one_after_the_other(self):
        for kind, sort in itertools.product(BOTH, (list, tuple)):
            for many in range(len(self.STEPS) + 1):
                board, single = kind(U), kind(U)
                self.assertIs(board.run(sort(self.STEPS[:many])), None)
                for name, *values in self.STEPS[:many]:
                    getattr(single, name)(*values)
                self.assertEqual(whole_state(board)[:-1], whole_state(single)[:-1])
                self.assertEqual(board.actions(), self.STEPS[:many])
                self.assertEqual(board.log(), (("begin", many), ("end", many)))

    def test_failures_at_each_index(self):
        wrong = (("drop", 9), ("drop", True), ("add", (1, 0)), ("add", None), ("change", 0, 0, 1), ("change", [], 0, 1),
                 ("change", 0, 1, TOP + 1), ("add", [3, 3, 3]), ("drop", {"a": 1}))
        for kind in BOTH:
            for at, bad in itertools.product(range(len(self.STEPS) + 1), wrong):
                board = kind(U)
                board.cut_at(2)
                board.drop(3)
                board.undo()
                board.change(0, 1, 4)
                before = whole_state(board)
                batch = [*self.STEPS[:at], bad, *self.STEPS[at:]]
                self.assert_error(BatchFailed, {"index": at}, board.run, batch)
                self.assertEqual(whole_state(board)[:-1], before[:-1])
                self.assertEqual(board.log(), (("begin", 6), ("end", 0)))
                board.drop(0)

    def test_failures_of_a_nested_board(self):
        board = NestedBoard(U)
        self.assert_error(BatchFailed, {"index": 1}, board.run, [("drop", 0), ("change", 0, 1, 9)])
        self.assertEqual(whole_state(board)[:-1], whole_state(NestedBoard(U))[:-1])
        # The table is nested again after both actions, but not between them.
        table = ((), (2,), (2, 2))
        batch = [("change", 0, 1, 3), ("change", 0, 2, 3)]
        self.assert_error(BatchFailed, {"index": 0}, NestedBoard(table).run, batch)
        Board(table).run(batch)

    def test_twenty_actions_and_one_more(self):
        for kind in BOTH:
            board = kind(U)
            board.run([("change", 0, 1, 4)] * 20)
            self.assertEqual(len(board), 20)
            self.assert_refused(InvalidBatch, {}, board, "run", [("change", 0, 1, 4)] * 21)
            self.assert_refused(InvalidBatch, {}, board, "run", (("change", 0, 1, 4),) * 21)

    def test_values_that_are_no_batches(self):
        wrong = [
            [()], [[]], [None], ["drop"], [["drop", 0]], [("drop",)], [("drop", 0, 0)], [("change", 0, 1)], [("add",)],
            [("change", 0, 1, 2, 3)], [("undo",)], [("cut_at", 0)], [("run", [])], [("Drop", 0)], [("drop ", 0)],
            [(None, 0)], [(True, 0)], [(["drop"], 0)], [({"drop": 1}, 0)], [(("drop",), 0)], [("copy",)], [("log",)],
            (("drop", 0), ("drop",)), ("drop", 0), "drop", {"drop": 0}, [("drop", 9), ("nothing", 0)],
            [{}, ("drop", 0)],
        ]
        for kind in BOTH:
            board = kind(U)
            board.drop(0)
            before = whole_state(board)
            for value in [*wrong, *ANY_VALUES]:
                if value not in ([], (), [("drop", 0)]):
                    self.assert_error(InvalidBatch, {}, board.run, value)
                    self.assert_error(InvalidBatch, {}, board.run, value, on_step=lambda board: None)
            self.assertEqual(whole_state(board), before)

    def test_empty_batches(self):
        for kind, batch in itertools.product(BOTH, ([], ())):
            board = kind(U)
            self.assertIs(board.run(batch, on_step=self.fail), None)
            self.assertEqual(whole_state(board)[:-1], whole_state(kind(U))[:-1])
            self.assertEqual(board.log(), (("begin", 0), ("end", 0)))

    def test_on_step_is_passed_by_name(self):
        self.assertRaises(TypeError, Board(T).run, [], None)
        board = Board(T)
        board.run([("drop", 0)], on_step=None)
        self.assertEqual(len(board), 1)

    def test_the_log(self):
        self.assertEqual(Board(T).log(), ())
        for kind in BOTH:
            board = kind(U)
            rows = []
            for number in range(9):
                if number % 3 == 2:
                    self.assertRaises(BatchFailed, board.run, [("change", 0, 1, 4)] * number + [("drop", 4)])
                    rows += [("begin", number + 1), ("end", 0)]
                else:
                    board.run([("change", 0, 1, 4)] * number)
                    rows += [("begin", number), ("end", number)]
                self.assertRaises(InvalidBatch, board.run, None)
                board.change(0, 1, 4)
                board.cut_at(number)
                board.undo()
                self.assertEqual(board.log(), tuple(rows[-10:]))
            self.assertEqual(len(board.log()), 10)


class TestOnStep(unittest.TestCase, BoardChecks):
    BATCH = [("drop", 0), ("add", (3, 3, 3)), ("change", 0, 1, 2)]

    def test_the_same_board_after_each_action(self):
        for kind in BOTH:
            board, single, seen = kind(U), kind(U), []
            board.cut_at(2)
            single.cut_at(2)

            def on_step(given):
                self.assertIs(given, board)
                name, *values = self.BATCH[len(seen)]
                getattr(single, name)(*values)
                self.assertEqual(whole_state(given)[:-1], whole_state(single)[:-1])
                self.assertEqual(given.log(), (("begin", 3),))
                seen.append(name)
                return "nothing"

            self.assertIs(board.run(self.BATCH, on_step=on_step), None)
            self.assertEqual(seen, ["drop", "add", "change"])
            self.assertEqual(board.log(), (("begin", 3), ("end", 3)))
            self.assertEqual(whole_state(board)[:-1], whole_state(single)[:-1])

    def test_not_after_an_action_that_fails(self):
        seen = []
        batch = [*self.BATCH, ("drop", 9), ("drop", 0)]
        self.assert_error(BatchFailed, {"index": 3}, Board(U).run, batch, on_step=lambda board: seen.append(len(board)))
        self.assertEqual(seen, [1, 2, 3])

    def test_exceptions(self):
        class Own(Exception):
            pass

        for kind in BOTH:
            for error in (Own(), ValueError("x"), KeyError(1), Busy(), BatchFailed(7), NoSuchItem(5), MergeError(),
                          InvalidBatch(), TooManyActions(), KeyboardInterrupt(), SystemExit(3), GeneratorExit()):
                for many in range(3):
                    self.check_exception(kind, error, many)

    def check_exception(self, kind, error, many):
        board = kind(U)
        board.cut_at(3)
        board.drop(3)
        board.run([])
        before = whole_state(board)[:-1]

        def on_step(given):
            if len(given) == many + 2:
                raise error

        batch = [("drop", 0), ("add", (3, 3)), ("change", 0, 1, 2)]
        with self.assertRaises(error.__class__) as caught:
            board.run(batch, on_step=on_step)
        self.assertIs(caught.exception, error)
        self.assertEqual(whole_state(board)[:-1], before)
        self.assertEqual(board.log(), (("begin", 0), ("end", 0), ("begin", 3), ("end", 0)))
        self.assertIs(board.undo(), None)

    def refused(self, board):
        """Calls that raise Busy within on_step, with right values and with values of all kinds."""
        calls = [(board.undo,), (board.run, []), (board.run, [("drop", 0)]), (board.cut_at, 1), (board.drop, 0)]
        calls += [(board.change, 0, 1, 4), (board.add, (4,) * len(board.table()))]
        for value in ANY_VALUES:
            calls += [(board.change, value, value, value), (board.add, value), (board.drop, value)]
            calls += [(board.run, value), (board.cut_at, value)]
        return calls

    def test_all_methods_within_on_step(self):
        for kind in BOTH:
            board = kind(U)
            board.change(0, 1, 4)
            seen = []

            def on_step(given):
                before = whole_state(given)
                for function, *values in self.refused(given):
                    self.assert_error(Busy, {}, function, *values)
                self.assert_error(Busy, {}, given.run, [], on_step=on_step)
                self.assertEqual(whole_state(given), before)
                text = f"{len(given.table())} items, top {given.top}, cut 0, {len(given)} actions"
                self.assertEqual(str(given), text)
                self.assertEqual(given.size_of("drop"), 1)
                self.assertEqual(given.read("items 1\n"), given.single())
                self.assert_error(NoSuchStep, {"step": 9}, given.state_at, 9)
                self.assert_error(InvalidLevel, {"level": -1}, given, -1)
                self.assert_answers(given)
                seen.append(given.copy())

            board.run(self.BATCH, on_step=on_step)
            self.assertEqual([len(other) for other in seen], [2, 3, 4])
            self.assertEqual(board.log(), (("begin", 3), ("end", 3)))
            for number, other in enumerate(seen):
                self.check_copy(other, number + 2)
            board.drop(0)

    def check_copy(self, other, many):
        """A copy that was made within on_step is not busy, and stays as it was then."""
        self.assertEqual((len(other), other.log()), (many, ()))
        other.cut_at(1)
        other.drop(0)
        other.undo()
        other.run([("drop", 0)])
        for _ in range(many + 1):
            other.undo()
        self.assertEqual(other.table(), U)

    def test_copies_are_not_busy_within_on_step(self):
        for kind in BOTH:
            def on_step(given):
                other = given.copy()
                before = whole_state(given)
                other.drop(0)
                other.cut_at(2)
                other.run([("drop", 0)], on_step=lambda further: self.assertIs(further, other))
                other.undo()
                self.assertEqual(whole_state(given), before)
                self.assertRaises(Busy, given.undo)

            board = kind(U)
            board.run([("change", 0, 1, 4)], on_step=on_step)
            self.assertEqual(len(board), 1)

    def test_a_full_board_is_busy_first(self):
        board = Board(U)
        for _ in range(59):
            board.change(0, 1, 4)
        board.run([("drop", 0)], on_step=lambda given: self.assert_error(Busy, {}, given.drop, 0))
        self.assert_refused(TooManyActions, {}, board, "drop", 0)

    def test_not_busy_after_a_refused_batch(self):
        for kind in BOTH:
            board = kind(U)
            self.assertRaises(InvalidBatch, board.run, None)
            board.drop(0)
            self.assertRaises(BatchFailed, board.run, [("drop", 7)])
            board.drop(0)

            def on_step(given):
                self.assertRaises(Busy, given.run, [("drop", 0)])
                # Still busy after the inner call.
                self.assertRaises(Busy, given.drop, 0)

            board.run([("drop", 0)], on_step=on_step)
            self.assertEqual(len(board), 3)

    def test_a_batch_that_changes_within_on_step(self):
        for kind in BOTH:
            batch = [("drop", 0), ("drop", 0)]

            def on_step(given):
                batch.append(("drop", 0))
                batch[1] = ("drop", 99)

            board = kind(U)
            board.run(batch, on_step=on_step)
            self.assertEqual(board.actions(), (("drop", 0), ("drop", 0)))
            self.assertEqual(board.log(), (("begin", 2), ("end", 2)))
            batch.clear()
            self.assertEqual(len(board), 2)


class TestArguments(unittest.TestCase, BoardChecks):
    def test_arguments_are_not_modified(self):
        for kind in BOTH:
            batch = [("drop", 0), ("add", (3, 3, 3))]
            before = copy.deepcopy(batch)
            kind(U).run(batch)
            self.assertEqual(batch, before)

    def test_later_changes_to_arguments(self):
        batch = [("drop", 0)]
        board = Board(T)
        board.run(batch)
        before = whole_state(board)
        batch[0] = ("drop", 1)
        batch.append(None)
        self.assertEqual(whole_state(board), before)

    def test_the_same_answers_twice(self):
        for kind in BOTH:
            for table in tables_for(kind):
                board = kind(table)
                self.assertEqual(whole_state(board), whole_state(board))


if __name__ == "__main__":
    unittest.main()
