"""Groups of items at a level, the clusters among them, and the joins by which they arise."""

from mergelevels.below import is_path, join_grid


def group_of(grid, item, level):
    """Returns the group of an item at a level; grid is the square of the joining levels."""
    return tuple([other for other, join in enumerate(grid[item]) if join <= level])


def all_groups(grid, level):
    """Returns the ascending tuple of all groups at a level; grid is the square of the joining levels."""
    return tuple(sorted({group_of(grid, item, level) for item in range(len(grid))}))


def steps_of(grid):
    """Returns 0 and all joining levels, ascending; grid is the square of the joining levels."""
    # Each item has the joining level 0 with itself, so that 0 is never missing.
    return sorted({level for row in grid for level in row})


def groups_at(table, level):
    """Returns the ascending tuple of all groups at a level."""
    return all_groups(join_grid(table), level)


def clusters_of(table):
    """Returns the ascending tuple of all clusters."""
    grid = join_grid(table)
    return tuple(sorted({
        group for level in steps_of(grid) for group in all_groups(grid, level) if len(group) > 1
    }))


def is_cluster(table, value):
    """Whether the value is a cluster of the table."""
    # Each cluster is a tuple of different items. For Python True equals 1, so that the comparison alone is not enough.
    return is_path(table, value) and value in clusters_of(table)


def joins_of(table):
    """Returns the ascending tuple of all joins, each as (level, parts)."""
    grid = join_grid(table)
    joins = []
    # The first step is 0, at which nothing has joined yet.
    for level in steps_of(grid)[1:]:
        before = all_groups(grid, level - 1)
        for group in all_groups(grid, level):
            if group not in before:
                joins.append((level, tuple([part for part in before if part[0] in group])))
    return tuple(joins)


def walk_groups(table):
    """Yields (level, groups) for 0 and every level of a join, ascending."""
    grid = join_grid(table)
    for level in steps_of(grid):
        yield (level, all_groups(grid, level))
