"""Tables with more items, fewer items, other items or another level."""

from mergelevels.bounds import ITEMS
from mergelevels.errors import (
    InvalidCount, InvalidLevel, InvalidRow, LastItem, NoItems, NoSuchItem, RepeatedItem, TooLow, TooMany, Unlike,
)
from mergelevels.tables import (
    check_ends, find_row_fault, is_even, is_item, is_level, is_whole, level_between, levels_of, pairs_of,
)


def check_item(table, item):
    """Raises NoSuchItem if the value is not an item."""
    if not is_item(table, item):
        raise NoSuchItem(item)


def check_level(level):
    """Raises InvalidLevel if the value is not a level."""
    if not is_level(level):
        raise InvalidLevel(level)


def check_row(table, row):
    """Raises InvalidRow if the value is not a row for one more item."""
    if find_row_fault(len(table), row) is not None:
        raise InvalidRow(row)


def check_room(count):
    """Raises TooMany if a table cannot have so many items."""
    if count > ITEMS:
        raise TooMany()


def picked(table, items):
    """Returns the table of some different items, numbered in the given order."""
    return tuple([
        tuple([level_between(table, item, other) for other in items[:at]])
        for at, item in enumerate(items)
    ])


def with_item(table, nearest, level):
    """Returns the nested table with one more item, given by its nearest item and the level to it."""
    check_item(table, nearest)
    check_level(level)
    check_room(len(table) + 1)
    row = tuple([max(level, level_between(table, nearest, item)) for item in range(len(table))])
    return (*table, row)


def row_fault(table, row):
    """Returns the smallest pair of items that are not even with those of a further row, None if all are."""
    check_row(table, row)
    grown = (*table, row)
    for one, other in pairs_of(table):
        if not is_even(grown, one, other, len(table)):
            return one, other
    return None


def with_row(table, row):
    """Returns the table with one more row."""
    check_row(table, row)
    check_room(len(table) + 1)
    return (*table, row)


def without_item(table, item):
    """Returns the table without an item."""
    check_item(table, item)
    if len(table) == 1:
        raise LastItem()
    return picked(table, [other for other in range(len(table)) if other != item])


def selected(table, *items):
    """Returns the table of these items, numbered in this order."""
    if not items:
        raise NoItems()
    for item in items:
        check_item(table, item)
    for at, item in enumerate(items):
        if item in items[:at]:
            raise RepeatedItem(item)
    return picked(table, items)


def side_by_side(one, other, level):
    """Returns the table of the items of both tables, with this level between items of different tables."""
    check_level(level)
    least = max(levels_of(one) + levels_of(other), default=0)
    if level < least:
        raise TooLow(least)
    check_room(len(one) + len(other))
    between = (level,) * len(one)
    return one + tuple([between + row for row in other])


def check_shared(one, other, shared):
    """Raises an error unless the first items of both tables, so many, can be the same ones."""
    if not is_whole(shared) or not 1 <= shared <= min(len(one), len(other)):
        raise InvalidCount(shared)
    for low, high in pairs_of(one[:shared]):
        if one[high][low] != other[high][low]:
            raise Unlike(low, high)


def level_across(one, other, shared, item, further):
    """Returns the greatest possible level between an item of one and an item of other."""
    return min([
        max(level_between(one, item, bridge), level_between(other, further, bridge)) for bridge in range(shared)
    ])


def glued(one, other, shared):
    """Returns the nested table of the items of both tables, of which the first ones are the same."""
    check_shared(one, other, shared)
    check_room(len(one) + len(other) - shared)
    rows = []
    for further in range(shared, len(other)):
        # For a shared item this is its level in other: no way over another shared item is lower in a nested table.
        across = tuple([level_across(one, other, shared, item, further) for item in range(len(one))])
        rows.append(across + other[further][shared:])
    return (*one, *rows)


def set_level(table, one, other, level):
    """Returns the table with this level between two items."""
    check_ends(table, one, other)
    check_level(level)
    place = (max(one, other), min(one, other))
    return tuple([
        tuple([level if (high, low) == place else old for low, old in enumerate(row)])
        for high, row in enumerate(table)
    ])
