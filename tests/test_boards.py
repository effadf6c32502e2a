"""Points [56] to [59] and [62] to [68], and points [2] (i) and [3] for them."""

import inspect
import itertools
import random
import types
import unittest

from mergelevels.boards import Board, NestedBoard
from mergelevels.errors import (
    BatchFailed, InvalidLevel, InvalidRow, InvalidTable, LastItem, MergeError, NoSuchItem, NoSuchStep, NotNested,
    NothingToUndo, ParseError, SameItem, TooMany, TooManyActions,
)
from mergelevels.groups import groups_at, walk_groups
from mergelevels.growth import set_level, with_item, without_item
from mergelevels.tables import find_fault, uneven_items
from mergelevels.texts import format_table
from tests.board_samples import BOTH, BoardChecks, NESTED_TABLES, OTHER_TABLES, tables_for, whole_state
from tests.samples import (
    ANY_VALUES, EQUAL_TWELVE, NESTED_TWELVE, ONE, T, TOP, TWELVE, TWO, U, large_tables, non_items, non_levels,
    plain_clusters, plain_groups, plain_nested,
)


class TestConstructor(unittest.TestCase, BoardChecks):
    def test_example(self):
        self.assert_error(InvalidTable, {"path": (1, 0), "reason": "level"}, Board, ((), (0,)))

    def test_values_of_all_kinds(self):
        for kind in BOTH:
            for value in ANY_VALUES:
                fault = find_fault(value)
                if fault is not None:
                    self.assert_error(InvalidTable, {"path": fault[0], "reason": fault[1]}, kind, value)
            for level in (0, TOP + 1, True, None, "5", (5,)):
                fields = {"path": (2, 1), "reason": "level"}
                self.assert_error(InvalidTable, fields, kind, ((), (1,), (1, level)))
            rows = tuple((1,) * i for i in range(13))
            self.assert_error(InvalidTable, {"path": (), "reason": "table"}, kind, rows)

    def test_new_boards(self):
        for kind in BOTH:
            for table in tables_for(kind):
                board = kind(table)
                if len(table) < 6:
                    self.assert_plain(board, table, 0)
                self.assertEqual((board.cut, len(board), board.actions(), board.log()), (0, 0, (), ()))
                self.assertEqual(board.state_at(0), table)
                self.assertEqual(board.groups, tuple((item,) for item in range(len(table))))

    def test_levels_at_the_edges(self):
        for kind in BOTH:
            self.assertEqual(kind(((), (1,))).top, 1)
            self.assertEqual(kind(((), (TOP,))).top, TOP)

    def test_tables_that_are_not_nested(self):
        for table in OTHER_TABLES:
            if not plain_nested(table):
                self.assert_error(NotNested, {"three": uneven_items(table)}, NestedBoard, table)
                self.assertEqual(Board(table).table(), table)
        self.assert_error(NotNested, {"three": (0, 1, 2)}, NestedBoard, T)

    def test_class_values(self):
        self.assertEqual((Board.LIMIT, NestedBoard.LIMIT), (60, 60))
        self.assertIs(Board.LIMIT.__class__, int)
        self.assertEqual(NestedBoard.__bases__, (Board,))
        self.assertIn("LIMIT", vars(Board))

    def test_methods_of_the_class_itself(self):
        names = """
            __init__ change add drop undo run log cut_at cut groups top __call__ __contains__ table nested joins walk
            actions state_at read single size_of copy __len__ __eq__ __str__
        """
        for name in names.split():
            self.assertIn(name, vars(Board))
        self.assertIn("__init__", vars(NestedBoard))


class TestActions(unittest.TestCase, BoardChecks):
    def test_examples(self):
        self.assert_refused(SameItem, {"item": 2}, Board(T), "change", 2, 2, 5)
        self.assert_refused(InvalidRow, {"row": (1, 2, 3)}, Board(T), "add", (1, 2, 3))
        self.assert_refused(NothingToUndo, {}, Board(T), "undo")
        self.assert_refused(NotNested, {"three": (0, 1, 2)}, NestedBoard(U), "change", 1, 2, 9)
        board = Board(T)
        board.drop(3)
        self.assertEqual((board.actions(), board.table()), ((("drop", 3),), ((), (4,), (6, 2))))

    def test_change(self):
        for table in OTHER_TABLES[:1] + OTHER_TABLES[2:] + [TWO, U]:
            for one, other in itertools.permutations(range(len(table)), 2):
                for level in (1, 4, TOP):
                    board = Board(table)
                    self.assertIs(board.change(one, other, level), None)
                    self.assertEqual(board.table(), set_level(table, one, other, level))
                    self.assertEqual(board.actions(), (("change", one, other, level),))
                    self.assertEqual(board.state_at(0), table)

    def test_drop(self):
        for kind in BOTH:
            for table in tables_for(kind):
                for item in range(len(table)) if len(table) > 1 else []:
                    board = kind(table)
                    self.assertIs(board.drop(item), None)
                    self.assertEqual(board.table(), without_item(table, item))
                    self.assertEqual(board.actions(), (("drop", item),))

    def test_add(self):
        for table in OTHER_TABLES[:1] + OTHER_TABLES[2:] + [ONE, TWO, U, EQUAL_TWELVE[:11]]:
            for level in (1, 7, TOP):
                board = Board(table)
                row = tuple(level if item % 2 else 1 for item in range(len(table)))
                self.assertIs(board.add(row), None)
                self.assertEqual(board.table(), (*table, row))
                self.assertEqual(board.actions(), (("add", row),))

    def test_actions_that_leave_the_table(self):
        for kind in BOTH:
            board = kind(U)
            board.change(0, 1, 4)
            board.change(2, 1, 2)
            self.assertEqual((board.table(), len(board)), (U, 2))
            self.assertEqual(board.actions(), (("change", 0, 1, 4), ("change", 2, 1, 2)))
            board.undo()
            self.assertEqual((board.table(), len(board)), (U, 1))

    def test_wrong_items(self):
        for kind in BOTH:
            board = kind(U)
            for bad in non_items(4) + [value for value in ANY_VALUES if value.__class__ is not int]:
                self.assert_very(NoSuchItem, "item", bad, board.change, bad, 0, 5)
                self.assert_very(NoSuchItem, "item", bad, board.change, 0, bad, 5)
                self.assert_very(NoSuchItem, "item", bad, board.change, bad, "z", 0)
                self.assert_very(NoSuchItem, "item", bad, board.drop, bad)
            for item in range(4):
                self.assert_refused(SameItem, {"item": item}, board, "change", item, item, 0)
            self.assertEqual(whole_state(board), whole_state(kind(U)))

    def test_wrong_levels(self):
        for kind in BOTH:
            board = kind(U)
            for bad in non_levels():
                self.assert_very(InvalidLevel, "level", bad, board.change, 0, 1, bad)
            self.assertEqual(whole_state(board), whole_state(kind(U)))

    def test_wrong_rows(self):
        for kind in BOTH:
            for table in (ONE, U, EQUAL_TWELVE):
                board = kind(table)
                right = [4] * len(table)
                for value in (*ANY_VALUES, tuple(right[1:]), tuple(right + [4]), right, None):
                    self.assert_very(InvalidRow, "row", value, board.add, value)
                for place in (0, len(table) - 1):
                    for bad in (0, TOP + 1, -1, True, None, "4", [4], (4,)):
                        row = list(right)
                        row[place] = bad
                        self.assert_refused(InvalidRow, {"row": tuple(row)}, board, "add", tuple(row))
                self.assertEqual(whole_state(board), whole_state(kind(table)))

    def test_thirteen_items_and_none(self):
        for kind in BOTH:
            self.assert_refused(TooMany, {}, kind(EQUAL_TWELVE), "add", (3,) * 12)
            self.assert_refused(TooMany, {}, kind(NESTED_TWELVE), "add", (TOP,) * 12)
            self.assert_refused(LastItem, {}, kind(ONE), "drop", 0)
            self.assert_refused(NoSuchItem, {"item": 1}, kind(ONE), "drop", 1)
            board = kind(EQUAL_TWELVE[:11])
            board.add((3,) * 11)
            self.assertEqual(board.table(), EQUAL_TWELVE)

    def test_tables_that_would_not_be_nested(self):
        source = random.Random(103)
        seen = {True: 0, False: 0}
        for table in NESTED_TABLES:
            for _ in range(12):
                row = tuple(source.choice((1, 2, 3, 4, 5, 60)) for _ in table)
                if len(table) < 12:
                    seen[self.check_nested_add(table, row)] += 1
                if len(table) > 1:
                    one, other = source.sample(range(len(table)), 2)
                    seen[self.check_nested_change(table, one, other, source.choice((1, 2, 3, 4, 5, 60)))] += 1
        self.assertGreater(min(seen.values()), 20)

    def check_nested_add(self, table, row):
        board = NestedBoard(table)
        three = uneven_items((*table, row))
        if three is None:
            board.add(row)
            self.assertEqual(board.table(), (*table, row))
        else:
            self.assert_refused(NotNested, {"three": three}, board, "add", row)
        return three is None

    def check_nested_change(self, table, one, other, level):
        board = NestedBoard(table)
        changed = set_level(table, one, other, level)
        three = uneven_items(changed)
        if three is None:
            board.change(one, other, level)
            self.assertEqual(board.table(), changed)
        else:
            self.assert_refused(NotNested, {"three": three}, board, "change", one, other, level)
        return three is None

    def test_other_errors_come_before_not_nested(self):
        self.assert_refused(TooMany, {}, NestedBoard(EQUAL_TWELVE), "add", (1,) * 11 + (9,))
        self.assert_refused(InvalidLevel, {"level": TOP + 1}, NestedBoard(U), "change", 1, 2, TOP + 1)
        self.assert_refused(InvalidRow, {"row": (9, 1, 1)}, NestedBoard(U), "add", (9, 1, 1))

    def test_dropping_keeps_a_table_nested(self):
        for table in NESTED_TABLES:
            board = NestedBoard(table)
            while len(board.table()) > 1:
                board.drop(len(board) % len(board.table()))
            self.assertEqual(board.table(), ONE)


class TestLimit(unittest.TestCase, BoardChecks):
    def full(self, kind, table=U):
        board = kind(table)
        for number in range(60):
            self.assertEqual(len(board), number)
            board.change(0, 1, 4)
        return board

    def test_the_sixtieth_and_the_sixty_first_action(self):
        for kind in BOTH:
            board = self.full(kind)
            self.assertEqual(len(board), 60)
            self.assert_refused(TooManyActions, {}, board, "change", 0, 1, 4)
            self.assert_refused(TooManyActions, {}, board, "add", (9, 9, 9, 9))
            self.assert_refused(TooManyActions, {}, board, "drop", 0)
            board.undo()
            self.assertIs(board.drop(0), None)
            self.assertEqual((len(board), board.actions()[-1]), (60, ("drop", 0)))
            self.assert_refused(TooManyActions, {}, board, "drop", 0)

    def test_before_the_own_errors_of_an_action(self):
        for kind in BOTH:
            board = self.full(kind)
            for value in ANY_VALUES:
                self.assert_error(TooManyActions, {}, board.change, value, value, value)
                self.assert_error(TooManyActions, {}, board.add, value)
                self.assert_error(TooManyActions, {}, board.drop, value)
            self.assert_refused(TooManyActions, {}, board, "change", 1, 2, 9)

    def test_batches(self):
        for kind in BOTH:
            board = self.full(kind)
            self.assert_error(BatchFailed, {"index": 0}, board.run, [("drop", 0)])
            board.run([])
            self.assertEqual(len(board), 60)
            for _ in range(3):
                board.undo()
            before = whole_state(board)[:-1]
            self.assert_error(BatchFailed, {"index": 3}, board.run, [("change", 1, 0, 4)] * 4)
            self.assertEqual(whole_state(board)[:-1], before)
            board.run([("change", 1, 0, 4)] * 3)
            self.assertEqual(len(board), 60)

    def test_undo_of_all(self):
        board = self.full(Board)
        for number in range(60, 0, -1):
            self.assertEqual(len(board), number)
            self.assertIs(board.undo(), None)
        self.assert_refused(NothingToUndo, {}, board, "undo")
        self.assertEqual(board.table(), U)


class TestUndo(unittest.TestCase, BoardChecks):
    def test_each_action(self):
        for kind in BOTH:
            for name, *values in (("change", 0, 1, 4), ("add", (4, 4, 4, 4)), ("drop", 2)):
                board = kind(U)
                before = whole_state(board)
                getattr(board, name)(*values)
                self.assertNotEqual(whole_state(board), before)
                self.assertIs(board.undo(), None)
                self.assertEqual(whole_state(board), before)
                self.assert_refused(NothingToUndo, {}, board, "undo")

    def test_the_cut_stays(self):
        for kind in BOTH:
            board = kind(U)
            board.cut_at(2)
            board.drop(0)
            self.assertEqual(board.cut, 2)
            board.cut_at(3)
            board.undo()
            self.assertEqual((board.cut, board.groups), (3, ((0,), (1, 2, 3))))

    def test_undo_of_parts_of_a_batch(self):
        for kind in BOTH:
            board = kind(U)
            board.run([("drop", 0), ("drop", 0), ("add", (5, 5))])
            self.assertEqual(board.actions(), (("drop", 0), ("drop", 0), ("add", (5, 5))))
            board.undo()
            self.assertEqual(board.table(), ((), (3,)))
            board.undo()
            self.assertEqual(board.table(), ((), (2,), (3, 3)))
            self.assertEqual(len(board), 1)


class TestCut(unittest.TestCase, BoardChecks):
    def test_example(self):
        board = Board(T)
        self.assertIs(board.cut_at(3), None)
        self.assertEqual((board.cut, board.groups), (3, ((0,), (1, 2, 3))))

    def test_right_values(self):
        for kind in BOTH:
            for table in tables_for(kind):
                board = kind(table)
                for level in (0, 1, 2, 3, 6, 60, TOP, 0):
                    self.assertIs(board.cut_at(level), None)
                    self.assertEqual(board.cut, level)
                    self.assertEqual(board.groups, plain_groups(table, level))
                self.assertEqual((len(board), board.log(), board.actions()), (0, (), ()))

    def test_wrong_values(self):
        for kind in BOTH:
            board = kind(U)
            board.cut_at(3)
            for bad in non_levels():
                if bad.__class__ is not int or bad != 0:
                    self.assert_very(InvalidLevel, "level", bad, board.cut_at, bad)
                    self.assert_very(InvalidLevel, "level", bad, board, bad)
            self.assertEqual((board.cut, len(board)), (3, 0))

    def test_the_cut_cannot_be_assigned(self):
        for name in ("cut", "groups", "top"):
            self.assertIsInstance(vars(Board)[name], property)
            self.assertRaises(AttributeError, setattr, Board(T), name, 1)


class TestQueries(unittest.TestCase, BoardChecks):
    def test_example(self):
        board = Board(T)
        board.drop(0)
        self.assertEqual((board.groups, board.top, board(2), (0, 1) in board),
                         (((0,), (1,), (2,)), 3, ((0, 1), (2,)), True))

    def test_calls(self):
        for kind in BOTH:
            for table in tables_for(kind):
                board = kind(table)
                board.cut_at(2)
                for level in (0, 1, 2, 3, 7, TOP):
                    self.assertEqual(board(level), groups_at(table, level))
                self.assertEqual(board.cut, 2)

    def test_values_of_all_kinds_in_a_board(self):
        for kind in BOTH:
            for table in tables_for(kind):
                board = kind(table)
                clusters = plain_clusters(table)
                for value in ANY_VALUES:
                    wanted = repr(value) in [repr(cluster) for cluster in clusters]
                    self.assertIs(value in board, wanted)
        board = Board(T)
        for value in ((1, 2), (1, 2, 3), (0, 1, 2, 3)):
            self.assertTrue(value in board)
            for other in (list(value), value[::-1], value + (4,), value[1:] + value[:1], (*value, value), {"a": value}):
                self.assertFalse(other in board)
        for value in ((True, 2), (False, 1, 2, 3), (0, True, 2, 3), ("1", 2), (), (0,), (1,), (1, 1), (1, 2, 2)):
            self.assertFalse(value in board)
        self.assertFalse(board in board)

    def test_walk(self):
        for kind in BOTH:
            for table in tables_for(kind) + (large_tables() if kind is Board else []):
                board = kind(table)
                self.assertTrue(inspect.isgeneratorfunction(kind.walk))
                self.assertIsInstance(board.walk(), types.GeneratorType)
                self.assertEqual(list(board.walk()), list(walk_groups(table)))
                self.assertEqual(next(board.walk()), (0, tuple((item,) for item in range(len(table)))))

    def test_top(self):
        self.assertEqual([kind(table).top for kind in BOTH for table in (ONE, TWO, U)], [0, 5, 4] * 2)
        self.assertEqual([Board(table).top for table in (T, TWELVE, EQUAL_TWELVE, NESTED_TWELVE)], [4, 7, 3, 110])

    def test_state_at(self):
        self.assertEqual(Board(T).state_at(0), T)
        for kind in BOTH:
            board = kind(U)
            tables = [U]
            for name, *values in (("drop", 1), ("add", (9, 9, 9)), ("change", 0, 1, 4), ("drop", 0)):
                getattr(board, name)(*values)
                tables.append(board.table())
            for step in range(5):
                self.assertEqual(board.state_at(step), tables[step])
            for bad in (5, -1, 10 ** 30 - 1, True, False, *ANY_VALUES):
                if not (bad.__class__ is int and 0 <= bad <= 4):
                    self.assert_very(NoSuchStep, "step", bad, board.state_at, bad)
            board.undo()
            self.assert_very(NoSuchStep, "step", 4, board.state_at, 4)
            self.assertEqual(board.state_at(3), tables[3])

    def test_kinds_of_results(self):
        board = Board(T)
        board.run([("add", (1, 2, 3, 4)), ("change", 0, 1, 9)])
        for value in (board.actions(), board.log(), *board.actions(), *board.log(), board.state_at(1)):
            self.assertIs(value.__class__, tuple)
        self.assertEqual(board.actions(), (("add", (1, 2, 3, 4)), ("change", 0, 1, 9)))


class TestReadSingleSizeOf(unittest.TestCase, BoardChecks):
    def test_example(self):
        self.assertEqual((Board.size_of("change"), Board.size_of("undo"), len(Board.single())), (3, None, 0))

    def test_read(self):
        for kind in BOTH:
            for table in tables_for(kind):
                board = kind.read(format_table(table))
                self.assertIs(board.__class__, kind)
                self.assertEqual(whole_state(board), whole_state(kind(table)))

    def test_wrong_texts(self):
        for kind in BOTH:
            self.assert_error(ParseError, {"place": 2}, kind.read, "items 2\nrow 5")
            self.assert_error(ParseError, {"place": 0}, kind.read, "")
            for value in ANY_VALUES:
                if not isinstance(value, str):
                    self.assert_error(ParseError, {"place": None}, kind.read, value)

    def test_text_of_a_table_that_is_not_nested(self):
        self.assert_error(NotNested, {"three": (0, 1, 2)}, NestedBoard.read, format_table(T))
        self.assertEqual(Board.read(format_table(T)).table(), T)

    def test_single(self):
        for kind in BOTH:
            board = kind.single()
            self.assertIs(board.__class__, kind)
            self.assertEqual(whole_state(board), whole_state(kind(ONE)))
            board.add((3,))
            self.assertEqual(kind.single().table(), ONE)

    def test_class_and_static_methods(self):
        self.assertIsInstance(vars(Board)["read"], classmethod)
        self.assertIsInstance(vars(Board)["single"], classmethod)
        self.assertIsInstance(vars(Board)["size_of"], staticmethod)
        self.assertIs(NestedBoard(U).single().__class__, NestedBoard)

    def test_size_of(self):
        for kind in BOTH:
            self.assertEqual([kind.size_of(name) for name in ("change", "add", "drop")], [3, 1, 1])
            self.assertEqual(kind(U).size_of("drop"), 1)
            others = ("undo", "run", "cut_at", "copy", "Drop", "drop ", "", "size_of", ("drop",), ["drop"], {"drop": 1})
            for value in others + ANY_VALUES:
                if value != "drop":
                    self.assertIs(kind.size_of(value), None)


class TestCopyAndEquality(unittest.TestCase, BoardChecks):
    def test_examples(self):
        self.assertEqual(str(Board(T)), "4 items, top 4, cut 0, 0 actions")
        self.assertFalse(Board(U) == NestedBoard(U))

    def changed(self, kind):
        board = kind(U)
        board.cut_at(3)
        board.run([("drop", 3), ("add", (4, 2, 2))])
        board.change(0, 1, 4)
        return board

    def test_copy(self):
        for kind in BOTH:
            board = self.changed(kind)
            other = board.copy()
            self.assertIs(other.__class__, kind)
            self.assertEqual(whole_state(other)[:-1], whole_state(board)[:-1])
            self.assertTrue(other == board and board == other)
            self.assertEqual(other.log(), ())
            self.assertEqual(board.log(), (("begin", 2), ("end", 2)))

    def test_changes_of_a_copy_and_of_the_original(self):
        for kind in BOTH:
            board = self.changed(kind)
            other = board.copy()
            before = whole_state(board)
            other.undo()
            other.drop(0)
            other.drop(0)
            other.cut_at(1)
            other.run([("add", (7, 7))])
            self.assertEqual(whole_state(board), before)
            further = board.copy()
            before = whole_state(further)
            board.undo()
            board.undo()
            board.drop(0)
            board.cut_at(0)
            self.assertEqual(whole_state(further), before)
            for _ in range(3):
                further.undo()
            self.assert_refused(NothingToUndo, {}, further, "undo")
            self.assertEqual(further.table(), U)

    def test_copy_of_a_full_board(self):
        for kind in BOTH:
            board = kind(U)
            for _ in range(60):
                board.change(0, 1, 4)
            self.assert_refused(TooManyActions, {}, board.copy(), "change", 0, 1, 4)
            self.assertEqual(len(board.copy()), 60)

    def test_equal_boards(self):
        for kind in BOTH:
            board = self.changed(kind)
            same = kind(board.table())
            self.assertFalse(board == same)
            self.assertTrue(board != same)
            same.cut_at(3)
            self.assertTrue(board == same)
            self.assertFalse(board != same)
            same.drop(0)
            self.assertFalse(board == same)
            same.undo()
            self.assertIs(board == same, True)
            self.assertIs(board == kind(TWO), False)

    def test_other_values(self):
        for kind in BOTH:
            board = kind(U)
            for value in ANY_VALUES + (U, board.actions(), str(board), object(), MergeError()):
                self.assertIs(board == value, False)
                self.assertIs(board != value, True)
                self.assertIs(value == board, False)
        self.assertIs(NestedBoard(U) == Board(U), False)
        self.assertIs(Board(U) != NestedBoard(U), True)

    def test_texts(self):
        for kind in BOTH:
            self.assertEqual(str(kind(ONE)), "1 items, top 0, cut 0, 0 actions")
            board = kind(TWO)
            board.cut_at(TOP)
            self.assertEqual(str(board), "2 items, top 5, cut 1000000000000, 0 actions")
            board.drop(1)
            self.assertEqual(str(board), "1 items, top 0, cut 1000000000000, 1 actions")
            self.assertEqual(str(kind(NESTED_TWELVE)), "12 items, top 110, cut 0, 0 actions")
        board = Board(T)
        board.change(0, 3, 1)
        board.change(0, 3, 6)
        self.assertEqual(str(board), "4 items, top 4, cut 0, 2 actions")


class TestDrawnActions(unittest.TestCase, BoardChecks):
    """Point [2] (i), and a plain list of tables beside each board."""

    def draw_step(self, source, table, top):
        """An action that may be right or wrong."""
        count = len(table)
        level = source.choice((1, top, TOP, source.randint(1, top), source.randint(0, top + 1), True, None))
        kind = source.randrange(5)
        if kind == 0:
            return "drop", source.randint(-1, count)
        if kind == 1:
            return "add", tuple(source.randint(1, top) for _ in range(count + (source.randrange(9) == 0)))
        if kind == 2 and plain_nested(table) and count < 12:
            return "add", with_item(table, source.randrange(count), source.randint(1, top))[-1]
        return "change", source.randint(0, count), source.randrange(count), level

    def plain_after(self, kind, table, step):
        """The table after an action, None if there is an error."""
        name, *values = step
        try:
            if name == "drop":
                after = without_item(table, *values)
            elif name == "change":
                after = set_level(table, *values)
            else:
                after = (*table, *values)
        except (MergeError, LookupError):
            return None
        if find_fault(after) is not None or kind is NestedBoard and not plain_nested(after):
            return None
        return after

    def check_steps(self, kind, seed):
        source = random.Random(seed)
        start = source.choice([table for table in tables_for(kind) if len(table) < 6])
        board, tables, steps, cut = kind(start), [start], [], 0
        for _ in range(60):
            choice = source.randrange(10)
            if choice == 0:
                cut = source.choice((0, 1, 2, 3, 5, TOP))
                board.cut_at(cut)
            elif choice < 4:
                if steps:
                    board.undo()
                    tables.pop()
                    steps.pop()
                else:
                    self.assertRaises(NothingToUndo, board.undo)
            elif choice < 6:
                self.run_batch(source, kind, board, tables, steps)
            else:
                self.take_step(source, kind, board, tables, steps)
            self.assertEqual(board.table(), tables[-1])
            self.assertEqual((board.actions(), len(board), board.cut), (tuple(steps), len(steps), cut))
        self.assertEqual([board.state_at(step) for step in range(len(tables))], tables)
        self.assert_answers(board)
        self.assert_answers(board.copy(), kind)
        if len(tables[-1]) < 6:
            self.assert_plain(board, tables[-1], cut)

    def take_step(self, source, kind, board, tables, steps):
        step = self.draw_step(source, tables[-1], 5)
        after = self.plain_after(kind, tables[-1], step)
        if after is None or len(steps) == 60:
            self.assertRaises((MergeError, LookupError), getattr(board, step[0]), *step[1:])
        else:
            getattr(board, step[0])(*step[1:])
            tables.append(after)
            steps.append(step)

    def run_batch(self, source, kind, board, tables, steps):
        batch, after = [], [tables[-1]]
        for _ in range(source.randrange(4)):
            step = self.draw_step(source, after[-1], 5)
            batch.append(step)
            table = self.plain_after(kind, after[-1], step)
            if table is None or len(steps) + len(batch) > 60:
                self.assert_error(BatchFailed, {"index": len(batch) - 1}, board.run, batch)
                return
            after.append(table)
        board.run(batch)
        tables += after[1:]
        steps += batch

    def test_drawn_actions(self):
        for kind in BOTH:
            for seed in range(60):
                with self.subTest(kind=kind, seed=seed):
                    self.check_steps(kind, seed)


if __name__ == "__main__":
    unittest.main()
