"""Paths, divisions and joining levels: the greatest nested table below a table."""

from mergelevels.bounds import LEVEL
from mergelevels.errors import UnknownLimit
from mergelevels.tables import check_ends, check_items, is_item, level_between, pairs_of

LIMITS = ("level", "join", "gap")


def level_grid(table):
    """Returns the levels of the table as a square, with a list for each item."""
    count = len(table)
    return [[level_between(table, one, other) for other in range(count)] for one in range(count)]


def lowest_grid(grid):
    """Returns the square of the least heights of paths whose steps are those of the given square."""
    lowest = grid
    for middle in range(len(grid)):
        onward = lowest[middle]
        # After this round the paths may lead through all items up to middle.
        lowest = [
            [min(direct, max(row[middle], step)) for direct, step in zip(row, onward)]
            for row in lowest
        ]
    return lowest


def join_grid(table):
    """Returns the joining levels of the table as a square, with a list for each item."""
    return lowest_grid(level_grid(table))


def join_level(table, one, other):
    """Returns the joining level of two items."""
    check_items(table, one, other)
    return join_grid(table)[one][other]


def nested_below(table):
    """Returns the table of the joining levels."""
    return tuple([tuple(row[:at]) for at, row in enumerate(join_grid(table))])


def longer_paths(table, paths, height):
    """Adds to the best path of each item those that are one step longer and lead to new items."""
    # The paths come in the order of their lengths, then of tuples, and so do the longer ones:
    # the first path that is found to an item is therefore the best one to it.
    found = {item: paths[item] for item in paths}
    for path in paths.values():
        for item in range(len(table)):
            if item not in found and level_between(table, path[-1], item) <= height:
                found[item] = (*path, item)
    return found


def best_path(table, one, other):
    """Returns the lowest path from one to other, of these the shortest, of these the smallest."""
    height = join_level(table, one, other)
    paths = {one: (one,)}
    while other not in paths:
        paths = longer_paths(table, paths, height)
    return paths[other]


def best_division(table, one, other):
    """Returns the division of all items that are joined with one before other is."""
    check_ends(table, one, other)
    joins = join_grid(table)[one]
    return tuple([item for item, level in enumerate(joins) if level < joins[other]])


def is_path(table, value):
    """Whether the value is a path."""
    if not isinstance(value, tuple) or not value:
        return False
    return all([is_item(table, item) for item in value]) and len(set(value)) == len(value)


def is_division(table, value):
    """Whether the value is a division."""
    if not isinstance(value, tuple) or not 1 <= len(value) < len(table):
        return False
    return all([is_item(table, item) for item in value]) and sorted(set(value)) == list(value)


def height_of(table, path):
    """Returns the height of a path."""
    return max([level_between(table, one, other) for one, other in zip(path, path[1:])], default=0)


def width_of(table, division):
    """Returns the width of a division."""
    outside = [item for item in range(len(table)) if item not in division]
    return min([level_between(table, one, other) for one in division for other in outside])


def check_join(table, one, other, value):
    """Whether the value is a path and a division that show the joining level of two items."""
    check_ends(table, one, other)
    if not isinstance(value, tuple) or len(value) != 2:
        return False
    path, division = value
    if not is_path(table, path) or not is_division(table, division):
        return False
    if path[0] != one or path[-1] != other or one not in division or other in division:
        return False
    return height_of(table, path) == width_of(table, division)


def detour_level(table, one, other):
    """Returns the least height of the paths from one to other with at least three items."""
    check_ends(table, one, other)
    if len(table) == 2:
        return None
    grid = level_grid(table)
    # No detour is higher than LEVEL, so that the direct step cannot be better than any of them.
    grid[one][other] = LEVEL
    grid[other][one] = LEVEL
    return lowest_grid(grid)[one][other]


def is_within(level, join, limits):
    """Whether a pair with this level and this joining level satisfies all limits."""
    numbers = {"level": level, "join": join, "gap": level - join}
    return all([numbers[name] <= limits[name] for name in limits])


def select_pairs(table, **limits):
    """Returns the ascending tuple of all pairs that satisfy every given limit."""
    unknown = sorted([name for name in limits if name not in LIMITS])
    if unknown:
        raise UnknownLimit(unknown[0])
    joins = join_grid(table)
    return tuple([
        (one, other)
        for one, other in pairs_of(table)
        if is_within(level_between(table, one, other), joins[one][other], limits)
    ])
