"""Boards: a table under a sequence of actions that can be undone."""

from mergelevels.below import nested_below
from mergelevels.bounds import BATCH, LEVEL
from mergelevels.errors import (
    BatchFailed, Busy, InvalidBatch, InvalidLevel, InvalidTable, MergeError, NoSuchItem, NoSuchStep, NotNested,
    NothingToUndo, TooManyActions,
)
from mergelevels.groups import groups_at, is_cluster, joins_of, walk_groups
from mergelevels.growth import set_level, with_row, without_item
from mergelevels.tables import find_fault, is_whole, levels_of, uneven_items
from mergelevels.texts import parse_table

# How many arguments each action takes.
SIZES = {"change": 3, "add": 1, "drop": 1}
# How many rows of the log are shown.
ROWS = 10


def arguments_of(name):
    """Returns the number of arguments of the action with this name, None if there is none."""
    # What is not a text may not even be possible as a key.
    return SIZES.get(name) if isinstance(name, str) else None


def is_step(value):
    """Whether the value is a tuple of the name of an action and its arguments."""
    if not isinstance(value, tuple) or not value:
        return False
    return arguments_of(value[0]) == len(value) - 1


def steps_of(batch):
    """Returns the actions of a batch, which later changes to the batch do not reach."""
    if not isinstance(batch, (list, tuple)) or len(batch) > BATCH:
        raise InvalidBatch()
    if not all([is_step(step) for step in batch]):
        raise InvalidBatch()
    return tuple(batch)


def table_after(table, step):
    """Returns the table after an action."""
    name, *values = step
    if name == "change":
        return set_level(table, *values)
    if name == "add":
        return with_row(table, *values)
    return without_item(table, *values)


def check_cut(value):
    """Raises InvalidLevel if the value is not 0 or a level."""
    if not is_whole(value) or not 0 <= value <= LEVEL:
        raise InvalidLevel(value)


def check_nested(table):
    """Raises NotNested if the table is not nested."""
    three = uneven_items(table)
    if three is not None:
        raise NotNested(three)


class Board:
    """A table that is changed by actions, and a cut at which its groups are shown."""

    LIMIT = 60
    NESTED = False

    def __init__(self, table):
        fault = find_fault(table)
        if fault is not None:
            path, reason = fault
            raise InvalidTable(path, reason)
        # The actions that are kept, and the tables before, between and after them.
        # As tuples they never change themselves, so that copies and a failed batch can go back to them.
        self.kept = ()
        self.tables = (table,)
        self.level = 0
        self.busy = False
        self.rows = []

    @classmethod
    def read(cls, text):
        """Returns a new board of the table with this text."""
        return cls(parse_table(text))

    @classmethod
    def single(cls):
        """Returns a new board of the table with one item."""
        return cls(((),))

    @staticmethod
    def size_of(name):
        """Returns the number of arguments of the action with this name, None if there is none."""
        return arguments_of(name)

    def change(self, one, other, level):
        """Sets the level between two items."""
        self.act(("change", one, other, level))

    def add(self, row):
        """Adds a row at the end: one more item."""
        self.act(("add", row))

    def drop(self, item):
        """Removes an item."""
        self.act(("drop", item))

    def undo(self):
        """Reverts the last action that is kept."""
        self.check_free()
        if not self.kept:
            raise NothingToUndo()
        self.kept = self.kept[:-1]
        self.tables = self.tables[:-1]

    def run(self, batch, *, on_step=None):
        """Performs all actions of a batch, or none; calls on_step with the board after each one."""
        self.check_free()
        steps = steps_of(batch)
        kept, tables, many = self.kept, self.tables, 0
        self.rows = self.rows[-ROWS:]
        self.rows.append(("begin", len(steps)))
        self.busy = True
        try:
            self.perform_all(steps, on_step)
            kept, tables, many = self.kept, self.tables, len(steps)
        finally:
            # However the batch ends: either what was before it is in effect again, or all of it is.
            self.kept, self.tables = kept, tables
            self.busy = False
            self.rows.append(("end", many))

    def cut_at(self, value):
        """Makes the value the cut."""
        self.check_free()
        check_cut(value)
        self.level = value

    def check_free(self):
        """Raises Busy in the middle of a batch."""
        if self.busy:
            raise Busy()

    def act(self, step):
        """Performs an action that does not belong to a batch."""
        self.check_free()
        self.perform(step)

    def perform(self, step):
        """Performs an action and keeps it."""
        if len(self.kept) >= self.LIMIT:
            raise TooManyActions()
        table = table_after(self.tables[-1], step)
        if self.NESTED:
            check_nested(table)
        self.kept = (*self.kept, step)
        self.tables = (*self.tables, table)

    def perform_all(self, steps, on_step):
        """Performs the actions of a batch in their order."""
        for index, step in enumerate(steps):
            try:
                self.perform(step)
            except (MergeError, NoSuchItem) as why:
                raise BatchFailed(index) from why
            # Not inside the try: an error of on_step is not an error of the action.
            if on_step is not None:
                on_step(self)

    @property
    def cut(self):
        """The cut."""
        return self.level

    @property
    def groups(self):
        """The groups at the cut."""
        return groups_at(self.tables[-1], self.level)

    @property
    def top(self):
        """The greatest joining level."""
        return max(levels_of(nested_below(self.tables[-1])), default=0)

    def __call__(self, level):
        check_cut(level)
        return groups_at(self.tables[-1], level)

    def __contains__(self, value):
        return is_cluster(self.tables[-1], value)

    def table(self):
        """Returns the current table."""
        return self.tables[-1]

    def nested(self):
        """Returns the table of the joining levels."""
        return nested_below(self.tables[-1])

    def joins(self):
        """Returns the ascending tuple of all joins."""
        return joins_of(self.tables[-1])

    def walk(self):
        """Yields (level, groups) for 0 and every level of a join, ascending."""
        table = self.tables[-1]
        yield from walk_groups(table)

    def actions(self):
        """Returns the actions that are kept, each as (name, ...)."""
        return self.kept

    def state_at(self, step):
        """Returns the table after so many of the actions that are kept."""
        if not is_whole(step) or not 0 <= step <= len(self.kept):
            raise NoSuchStep(step)
        return self.tables[step]

    def log(self):
        """Returns the last rows about the beginnings and ends of batches."""
        return tuple(self.rows[-ROWS:])

    def copy(self):
        """Returns an equal board with the same actions, which is not busy and has an empty log."""
        board = Board(self.tables[0])
        board.follow(self)
        return board

    def follow(self, other):
        """Takes over the actions, the tables and the cut of another board."""
        self.kept = other.kept
        self.tables = other.tables
        self.level = other.level

    def __len__(self):
        return len(self.kept)

    def __eq__(self, other):
        if not isinstance(other, Board):
            return False
        return self.tables[-1] == other.tables[-1] and self.level == other.level and self.NESTED == other.NESTED

    def __str__(self):
        return f"{len(self.tables[-1])} items, top {self.top}, cut {self.level}, {len(self.kept)} actions"


class NestedBoard(Board):
    """A board whose table is always nested."""

    NESTED = True

    def __init__(self, table):
        super().__init__(table)
        check_nested(table)

    def copy(self):
        """Returns an equal board with the same actions, which is not busy and has an empty log."""
        board = NestedBoard(self.tables[0])
        board.follow(self)
        return board
