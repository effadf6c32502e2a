"""Tables of levels between items: their form, their levels, and whether they are nested."""

from mergelevels.bounds import ITEMS, LEVEL
from mergelevels.errors import NoSuchItem, SameItem


def is_whole(value):
    """Whether the value is an integer."""
    # For Python a bool is an int too, but True and False never count as integers here.
    return isinstance(value, int) and not isinstance(value, bool)


def is_level(value):
    """Whether the value is a level."""
    return is_whole(value) and 1 <= value <= LEVEL


def is_item(table, value):
    """Whether the value is an item of the table."""
    return is_whole(value) and 0 <= value < len(table)


def is_pair(table, value):
    """Whether the value is a pair of items of the table."""
    if not isinstance(value, tuple) or len(value) != 2:
        return False
    one, other = value
    return is_item(table, one) and is_item(table, other) and one < other


def check_items(table, one, other):
    """Raises NoSuchItem for the first of two values that is not an item."""
    if not is_item(table, one):
        raise NoSuchItem(one)
    if not is_item(table, other):
        raise NoSuchItem(other)


def check_ends(table, one, other):
    """Raises an error unless the values are two different items."""
    check_items(table, one, other)
    if one == other:
        raise SameItem(one)


def find_row_fault(at, row):
    """Returns what is wrong with a value as row number at, None if it is such a row."""
    if not isinstance(row, tuple) or len(row) != at:
        return (at,), "row"
    for place, level in enumerate(row):
        if not is_level(level):
            return (at, place), "level"
    return None


def find_fault(value):
    """Returns None if the value is a table, otherwise its first fault as (path, reason)."""
    if not isinstance(value, tuple) or not 1 <= len(value) <= ITEMS:
        return (), "table"
    for at, row in enumerate(value):
        fault = find_row_fault(at, row)
        if fault is not None:
            return fault
    return None


def level_between(table, one, other):
    """Returns the level between two values that are known to be items."""
    if one == other:
        return 0
    return table[max(one, other)][min(one, other)]


def level_of(table, one, other):
    """Returns the level between two items."""
    check_items(table, one, other)
    return level_between(table, one, other)


def levels_of(table):
    """Returns the ascending tuple of the different levels of the table."""
    return tuple(sorted({level for row in table for level in row}))


def pairs_of(table):
    """Returns the ascending tuple of all pairs."""
    count = len(table)
    return tuple([(one, other) for one in range(count) for other in range(one + 1, count)])


def is_even(table, one, other, third):
    """Whether the greatest level between three different items occurs at least twice."""
    levels = sorted([
        level_between(table, one, other),
        level_between(table, one, third),
        level_between(table, other, third),
    ])
    return levels[1] == levels[2]


def uneven_items(table):
    """Returns the smallest three items that are not even, None if the table is nested."""
    for one, other in pairs_of(table):
        for third in range(other + 1, len(table)):
            if not is_even(table, one, other, third):
                return one, other, third
    return None


def is_nested(table):
    """Whether any three different items are even."""
    return uneven_items(table) is None
