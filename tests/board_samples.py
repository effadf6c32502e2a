"""Tables, questions and checks that the tests of boards share."""

import itertools

from mergelevels.below import nested_below
from mergelevels.boards import Board, NestedBoard
from mergelevels.groups import joins_of, walk_groups
from tests.samples import (
    EQUAL_TWELVE, NESTED_TWELVE, ONE, T, TOP, TWELVE, TWO, U, ErrorChecks, KindChecks, drawn_nested,
    plain_clusters, plain_groups, plain_join, random_tables,
)

NESTED_TABLES = [ONE, TWO, U, EQUAL_TWELVE, NESTED_TWELVE] + drawn_nested(101, 12, (2, 3, 4, 5), 6)
OTHER_TABLES = [T, TWELVE] + random_tables(102, 12, (3, 4, 5), 6)
BOTH = (Board, NestedBoard)


def tables_for(kind):
    """Tables that a board of this kind can have."""
    return NESTED_TABLES if kind is NestedBoard else NESTED_TABLES + OTHER_TABLES


def answers(board):
    """What the board answers about its table and its cut."""
    table = board.table()
    levels = (0, 1, 2, 3, 4, 5, 6, TOP)
    sizes = range(len(table) + 1) if len(table) < 6 else (1, 2, len(table))
    parts = [part for size in sizes for part in itertools.combinations(range(len(table)), size)]
    return (
        table, board.nested(), board.joins(), list(board.walk()), board.cut, board.groups, board.top,
        [board(level) for level in levels], [part in board for part in parts],
    )


def whole_state(board):
    """All that can be asked of a board."""
    steps = [board.state_at(step) for step in range(len(board) + 1)]
    return answers(board), steps, board.actions(), len(board), str(board), board.log()


class BoardChecks(KindChecks, ErrorChecks):
    """Checks that need a board."""

    def assert_refused(self, error_class, fields, board, name, *arguments, **named):
        """The method raises the very error, and the board stays as it was."""
        before = whole_state(board)
        self.assert_error(error_class, fields, getattr(board, name), *arguments, **named)
        self.assertEqual(whole_state(board), before)

    def assert_answers(self, board, kind=None):
        """The board answers as a new one with the same table and cut does."""
        kind = kind or board.__class__
        fresh = kind(board.table())
        fresh.cut_at(board.cut)
        self.assertEqual(answers(board), answers(fresh))
        self.assertTrue(board == fresh and fresh == board)

    def assert_plain(self, board, table, cut):
        """The answers of the board are those of a plain computation."""
        levels = [plain_join(table, *pair) for pair in itertools.combinations(range(len(table)), 2)]
        self.assertEqual(board.table(), table)
        self.assertEqual((board.cut, board.groups), (cut, plain_groups(table, cut)))
        self.assertEqual(board.top, max(levels, default=0))
        self.assertEqual(board.nested(), nested_below(table))
        self.assertEqual(board.joins(), joins_of(table))
        self.assertEqual(list(board.walk()), list(walk_groups(table)))
        for level in (0, 1, 3, TOP):
            self.assertEqual(board(level), plain_groups(table, level))
        clusters = plain_clusters(table)
        for size in range(len(table) + 1):
            for part in itertools.combinations(range(len(table)), size):
                self.assertIs(part in board, part in clusters)
        self.assert_tuples((board.table(), board.groups, board.nested(), board.joins(), board(1), board.top))
