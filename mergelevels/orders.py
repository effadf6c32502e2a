"""The order of tables: tables above and below others, common clusters, and other levels in the same order."""

from mergelevels.below import nested_below
from mergelevels.errors import InvalidLevels, UnequalSizes
from mergelevels.groups import clusters_of
from mergelevels.tables import is_level, levels_of


def check_sizes(tables):
    """Raises UnequalSizes for the first table that has another number of items than the first one."""
    for index, table in enumerate(tables):
        if len(table) != len(tables[0]):
            raise UnequalSizes(index)


def levels_by_place(tables):
    """Returns rows that contain at each place the levels that the tables have there."""
    return [list(zip(*rows)) for rows in zip(*tables)]


def is_below(one, other):
    """Whether no level of one is greater than that of other between the same items."""
    check_sizes((one, other))
    return all([low <= high for row, upper in zip(one, other) for low, high in zip(row, upper)])


def greatest_of(one, *others):
    """Returns the table with the greatest of the levels between the same items."""
    tables = (one, *others)
    check_sizes(tables)
    return tuple([tuple([max(levels) for levels in row]) for row in levels_by_place(tables)])


def below_all(one, *others):
    """Returns the greatest nested table that is below all the tables."""
    tables = (one, *others)
    check_sizes(tables)
    # A table is below all of them if it is below the least of their levels at each place.
    return nested_below(tuple([tuple([min(levels) for levels in row]) for row in levels_by_place(tables)]))


def common_clusters(one, *others):
    """Returns the ascending tuple of the clusters that all the tables have."""
    check_sizes((one, *others))
    found = [clusters_of(table) for table in others]
    return tuple([
        cluster for cluster in clusters_of(one) if all([cluster in clusters for clusters in found])
    ])


def has_same_groups(one, other):
    """Whether two tables have the same clusters."""
    check_sizes((one, other))
    return clusters_of(one) == clusters_of(other)


def is_ascending(levels):
    """Whether each level is greater than the one before it."""
    return all([low < high for low, high in zip(levels, levels[1:])])


def replaced(table, levels):
    """Returns the table with the given levels in the place of its own ones, in the same order."""
    changed = dict(zip(levels_of(table), levels))
    return tuple([tuple([changed[level] for level in row]) for row in table])


def ranked(table):
    """Returns the table in which each level is replaced by its number in levels_of."""
    return replaced(table, list(range(1, len(levels_of(table)) + 1)))


def regraded(table, value):
    """Returns the table in which the levels of levels_of are replaced by those in the value."""
    if not isinstance(value, tuple) or len(value) != len(levels_of(table)):
        raise InvalidLevels(value)
    if not all([is_level(level) for level in value]) or not is_ascending(value):
        raise InvalidLevels(value)
    return replaced(table, value)
