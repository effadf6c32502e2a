"""The errors of all modules. Each one stores the values that it is created from."""


class MergeError(ValueError):
    """The base of the errors about values that do not fit."""


class InvalidTable(MergeError):
    """A value that should be a table is none: reason tells what is wrong at path."""

    def __init__(self, path, reason):
        self.path = path
        self.reason = reason


class SameItem(MergeError):
    """Two different items are needed, but both are this one."""

    def __init__(self, item):
        self.item = item


class UnknownLimit(MergeError):
    """There is no limit with this name."""

    def __init__(self, name):
        self.name = name


class NotSpanning(MergeError):
    """The pairs are not a spanning tree."""


class UnequalSizes(MergeError):
    """The table at this index has another number of items than the first one."""

    def __init__(self, index):
        self.index = index


class InvalidLevels(MergeError):
    """The value is not an ascending tuple of as many levels as needed."""

    def __init__(self, levels):
        self.levels = levels


class Contradictory(MergeError):
    """A known path contradicts the known level of this pair."""

    def __init__(self, one, other):
        self.one = one
        self.other = other


class InvalidLevel(MergeError):
    """The value is not a level."""

    def __init__(self, level):
        self.level = level


class TooMany(MergeError):
    """There would be more items than a table can have."""


class InvalidRow(MergeError):
    """The value is not a row for one more item."""

    def __init__(self, row):
        self.row = row


class LastItem(MergeError):
    """The only item of a table cannot be removed."""


class NoItems(MergeError):
    """At least one item must be selected."""


class RepeatedItem(MergeError):
    """The item is selected twice."""

    def __init__(self, item):
        self.item = item


class TooLow(MergeError):
    """The level must be at least this one."""

    def __init__(self, least):
        self.least = least


class InvalidCount(MergeError):
    """The value is not a possible number of shared items."""

    def __init__(self, count):
        self.count = count


class Unlike(MergeError):
    """Two tables have different levels for this pair of shared items."""

    def __init__(self, one, other):
        self.one = one
        self.other = other


class InvalidOrder(MergeError):
    """The value does not contain each item exactly once."""

    def __init__(self, order):
        self.order = order


class TooManyActions(MergeError):
    """The board keeps as many actions as it can."""


class Busy(MergeError):
    """The board is in the middle of a batch."""


class NothingToUndo(MergeError):
    """The board keeps no action."""


class InvalidBatch(MergeError):
    """The value is not a batch of actions."""


class BatchFailed(MergeError):
    """The action at this index of the batch raised an error."""

    def __init__(self, index):
        self.index = index


class NotNested(MergeError):
    """These three items are not even."""

    def __init__(self, three):
        self.three = three


class ParseError(MergeError):
    """The text is not that of a table: place is the wrong line, or None."""

    def __init__(self, place):
        self.place = place


class NoSuchItem(LookupError):
    """The value is not an item of the table."""

    def __init__(self, item):
        self.item = item


class NoSuchStep(LookupError):
    """The value is not the number of a step of the board."""

    def __init__(self, step):
        self.step = step
