"""Open tables, in which levels may be unknown: contradictions, fillings, and the ranges of the levels."""

from mergelevels.below import best_path, height_of, is_path, join_grid, nested_below
from mergelevels.bounds import LEVEL
from mergelevels.errors import Contradictory
from mergelevels.tables import check_ends, find_fault, is_pair, level_between, pairs_of


def closed_row(row):
    """Returns the row with LEVEL at its unknown places; a value that is no row stays."""
    if not isinstance(row, tuple):
        return row
    return tuple([LEVEL if level is None else level for level in row])


def closed(table):
    """Returns the open table with LEVEL at its unknown places."""
    # A path over such a place is as high as a path can be: it is never lower than a known level.
    return tuple([closed_row(row) for row in table])


def find_open_fault(value):
    """Returns None if the value is an open table, otherwise its first fault as (path, reason)."""
    return find_fault(closed(value) if isinstance(value, tuple) else value)


def contradicted_pair(table):
    """Returns the smallest pair for which there is a contradiction, None if there is none."""
    grid = join_grid(closed(table))
    for one, other in pairs_of(table):
        level = level_between(table, one, other)
        if level is not None and grid[one][other] < level:
            return one, other
    return None


def contradiction_of(table):
    """Returns a contradiction with the smallest pair for which there is one, None if there is none."""
    pair = contradicted_pair(table)
    if pair is None:
        return None
    one, other = pair
    return one, other, best_path(closed(table), one, other)


def check_contradiction(table, value):
    """Whether the value is a contradiction of the open table."""
    if not isinstance(value, tuple) or len(value) != 3:
        return False
    one, other, path = value
    if not is_pair(table, (one, other)) or not is_path(table, path):
        return False
    if path[0] != one or path[-1] != other:
        return False
    level = level_between(table, one, other)
    return level is not None and height_of(closed(table), path) < level


def check_fillable(table):
    """Raises Contradictory if the open table has a contradiction."""
    pair = contradicted_pair(table)
    if pair is not None:
        one, other = pair
        raise Contradictory(one, other)


def greatest_filling(table):
    """Returns the filling in which all levels are as great as possible."""
    check_fillable(table)
    return nested_below(closed(table))


def least_level(table, one, other):
    """Returns the least level that an unknown one can have without contradicting a known one."""
    grid = join_grid(closed(table))
    least = 1
    for low, high in pairs_of(table):
        level = level_between(table, low, high)
        # A path from low to high over the unknown step must not be lower than their level.
        around = min(max(grid[low][one], grid[other][high]), max(grid[low][other], grid[one][high]))
        if level is not None and around < level:
            least = max(least, level)
    return least


def range_between(table, filling, one, other):
    """Returns (least, greatest) for two different items; filling is the greatest filling."""
    level = level_between(table, one, other)
    if level is not None:
        return level, level
    return least_level(table, one, other), level_between(filling, one, other)


def level_range(table, one, other):
    """Returns (least, greatest): the least and the greatest level between two items in any filling."""
    check_ends(table, one, other)
    return range_between(table, greatest_filling(table), one, other)


def is_forced(table, filling, one, other):
    """Whether the level of a pair is unknown, but the same in all fillings."""
    if level_between(table, one, other) is not None:
        return False
    least, greatest = range_between(table, filling, one, other)
    return least == greatest


def forced_pairs(table):
    """Returns the ascending tuple of the pairs with an unknown level that is the same in all fillings."""
    filling = greatest_filling(table)
    return tuple([(one, other) for one, other in pairs_of(table) if is_forced(table, filling, one, other)])
