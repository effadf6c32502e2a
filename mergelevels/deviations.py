"""How far a table is from the nested tables, and the nested tables that are near to it."""

from mergelevels.below import best_path, height_of, is_path, join_grid, nested_below
from mergelevels.bounds import LEVEL
from mergelevels.errors import UnequalSizes
from mergelevels.tables import find_fault, is_nested, level_between, levels_of, pairs_of


def has_same_size(table, value):
    """Whether the value is a table with as many items."""
    return find_fault(value) is None and len(value) == len(table)


def greatest_difference(table, near):
    """Returns the deviation of two tables that are known to have as many items."""
    return max([
        abs(level - other) for row, others in zip(table, near) for level, other in zip(row, others)
    ], default=0)


def deviation_between(table, value):
    """Returns the greatest difference of the levels of two tables between the same items."""
    if not has_same_size(table, value):
        raise UnequalSizes(1)
    return greatest_difference(table, value)


def widest_pair(table):
    """Returns (gap, one, other) with the greatest gap, item 0 twice if there is only one item."""
    grid = join_grid(table)
    return max([
        (level_between(table, one, other) - grid[one][other], one, other)
        for one, other in pairs_of(table)
    ], default=(0, 0, 0))


def greatest_gap(table):
    """Returns the greatest gap of all pairs."""
    return widest_pair(table)[0]


def least_deviation(table):
    """Returns the least deviation of a nested table from the table."""
    return (greatest_gap(table) + 1) // 2


def raised_joins(table, rise, top):
    """Returns the table of the joining levels plus rise, but at most top."""
    return tuple([tuple([min(level + rise, top) for level in row]) for row in nested_below(table)])


def nearest_table(table):
    """Returns the nested table of the joining levels plus the least deviation."""
    return raised_joins(table, least_deviation(table), max(levels_of(table), default=0))


def nested_within(table, most):
    """Returns the greatest nested table with a deviation of at most most, None if there is none."""
    if most < least_deviation(table):
        return None
    return raised_joins(table, most, LEVEL)


def deviation_certificate(table):
    """Returns (near, path): a nearest table, and a path that shows that none is nearer."""
    gap, one, other = widest_pair(table)
    return nearest_table(table), best_path(table, one, other)


def check_deviation(table, value):
    """Whether the value is a deviation certificate."""
    if not isinstance(value, tuple) or len(value) != 2:
        return False
    near, path = value
    if not has_same_size(table, near) or not is_nested(near) or not is_path(table, path):
        return False
    drop = level_between(table, path[0], path[-1]) - height_of(table, path)
    return drop >= 2 * greatest_difference(table, near) - 1
