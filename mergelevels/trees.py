"""Trees of joins, and the nested tables that they stand for."""

from mergelevels.bounds import ITEMS, LEVEL
from mergelevels.groups import joins_of
from mergelevels.tables import is_level, is_whole


def tree_of(table):
    """Returns the tree of the table of the joining levels."""
    trees = {(item,): item for item in range(len(table))}
    # Joins come in the order of their levels, so that the trees of the parts are there before they are needed.
    for level, parts in joins_of(table):
        cluster = tuple(sorted([item for part in parts for item in part]))
        below = [trees[part] for part in parts]
        trees[cluster] = (level, *below)
    return trees[tuple(range(len(table)))]


def items_of(tree):
    """Returns the items of a tree or of a part of one, in the order in which they stand in it."""
    if is_whole(tree):
        return [tree]
    return [item for part in tree[1:] for item in items_of(part)]


def level_in(tree, one, other):
    """Returns the level of the smallest part that contains both of two different items."""
    for part in tree[1:]:
        items = items_of(part)
        if one in items and other in items:
            return level_in(part, one, other)
    return tree[0]


def table_of(tree):
    """Returns the nested table of a tree."""
    count = len(items_of(tree))
    return tuple([tuple([level_in(tree, one, other) for other in range(one)]) for one in range(count)])


def is_part(value, above):
    """Whether the value has the form of a tree whose level is less than above, whatever its items are."""
    if is_whole(value):
        return 0 <= value < ITEMS
    if not isinstance(value, tuple) or len(value) < 3:
        return False
    level = value[0]
    if not is_level(level) or level >= above or not all([is_part(part, level) for part in value[1:]]):
        return False
    leasts = [min(items_of(part)) for part in value[1:]]
    return leasts == sorted(leasts)


def is_tree(value):
    """Whether the value is a tree."""
    if not is_part(value, LEVEL + 1):
        return False
    items = items_of(value)
    return sorted(items) == list(range(len(items)))
