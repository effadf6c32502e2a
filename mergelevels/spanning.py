"""Spanning trees of a table, and those of them with the least sum."""

from mergelevels.below import detour_level, join_grid, level_grid, lowest_grid, select_pairs
from mergelevels.bounds import LEVEL
from mergelevels.errors import NotSpanning
from mergelevels.groups import group_of, joins_of
from mergelevels.tables import is_pair, level_between, pairs_of


def own_sets(members):
    """Returns a dict in which each member is in a set of its own: it gives the name of each one's set."""
    return {member: member for member in members}


def united(names, one, other):
    """Returns the names of the sets after those of two members have become one set."""
    old = names[one]
    new = names[other]
    return {member: new if names[member] == old else names[member] for member in names}


def connects_all(table, pairs):
    """Whether the pairs connect all items."""
    names = own_sets(list(range(len(table))))
    for one, other in pairs:
        names = united(names, one, other)
    return len({names[item] for item in names}) == 1


def is_spanning(table, value):
    """Whether the value is a spanning tree of the table."""
    if not isinstance(value, tuple) or len(value) != len(table) - 1:
        return False
    if not all([is_pair(table, part) for part in value]) or sorted(set(value)) != list(value):
        return False
    return connects_all(table, value)


def sum_of(table, tree):
    """Returns the sum of a spanning tree."""
    return sum([level_between(table, one, other) for one, other in tree])


def least_tree(table):
    """Returns the smallest least spanning tree in the order of tuples."""
    # Of equal levels the smaller pair comes first, so that no smaller tree has this sum.
    steps = sorted([(level_between(table, one, other), (one, other)) for one, other in pairs_of(table)])
    names = own_sets(list(range(len(table))))
    tree = []
    for level, (low, high) in steps:
        if names[low] != names[high]:
            tree.append((low, high))
            names = united(names, low, high)
    return tuple(sorted(tree))


def is_least_tree(table, value):
    """Whether the value is a least spanning tree."""
    return is_spanning(table, value) and sum_of(table, value) == sum_of(table, least_tree(table))


def tree_levels(table, value):
    """Returns the table of the greatest steps along a spanning tree."""
    if not is_spanning(table, value):
        raise NotSpanning()
    grid = level_grid(table)
    for one, other in pairs_of(table):
        if (one, other) not in value:
            # Higher than every level: no lowest path leads over a step outside the tree.
            grid[one][other] = grid[other][one] = LEVEL + 1
    return tuple([tuple(row[:at]) for at, row in enumerate(lowest_grid(grid))])


def count_links(table, level, one, other):
    """Returns how many pairs of this level connect two parts."""
    return len([1 for low in one for high in other if level_between(table, low, high) == level])


def determinant(square):
    """Returns the determinant of a square of integers; that of its first rows and columns is never 0."""
    rows = square
    divisor = 1
    while len(rows) > 1:
        first = rows[0]
        # Each number here is itself a determinant, so that the division leaves no rest.
        smaller = [
            [(first[0] * row[at] - row[0] * first[at]) // divisor for at in range(1, len(row))]
            for row in rows[1:]
        ]
        divisor = first[0]
        rows = smaller
    return rows[0][0]


def count_ways(table, level, parts):
    """Returns the number of ways to connect the parts of a join by as few pairs as possible."""
    counts = [
        [0 if one == other else count_links(table, level, one, other) for other in parts]
        for one in parts
    ]
    # Kirchhoff's theorem: one part is left out, but the sums on the diagonal count it.
    size = len(parts)
    return determinant([
        [sum(counts[at]) if at == place else -counts[at][place] for place in range(1, size)]
        for at in range(1, size)
    ])


def count_least_trees(table):
    """Returns the number of least spanning trees."""
    number = 1
    # Each join takes pairs of its own level between its parts, whatever the other joins take.
    for level, parts in joins_of(table):
        number *= count_ways(table, level, parts)
    return number


def possible_pairs(table):
    """Returns the ascending tuple of the pairs that are in at least one least spanning tree."""
    return select_pairs(table, gap=0)


def is_sure(table, one, other):
    """Whether every other path between the items of a pair is higher than the direct step."""
    detour = detour_level(table, one, other)
    return detour is None or detour > level_between(table, one, other)


def sure_pairs(table):
    """Returns the ascending tuple of the pairs that are in all least spanning trees."""
    return tuple([(one, other) for one, other in possible_pairs(table) if is_sure(table, one, other)])


def links_of(table):
    """Returns (pair, part, part) for each possible pair, ascending, with the parts of a join that it connects."""
    grid = join_grid(table)
    links = []
    for one, other in possible_pairs(table):
        below = grid[one][other] - 1
        links.append(((one, other), group_of(grid, one, below), group_of(grid, other, below)))
    return links


def is_connected(names, links, one, other):
    """Whether two parts that are in different sets are connected by taking some of the links."""
    for pair, low, high in links:
        if names[low] != names[high]:
            names = united(names, low, high)
        if names[one] == names[other]:
            return True
    return False


def ways_on(links, at, taken, names):
    """Returns what can become of taken at the next link, the smaller choice last, each as (at, taken, names)."""
    pair, one, other = links[at]
    without = (at + 1, taken, names)
    if names[one] == names[other]:
        return [without]
    further = (at + 1, (*taken, pair), united(names, one, other))
    if is_connected(names, links[at + 1:], one, other):
        return [without, further]
    return [further]


def least_trees(table):
    """Yields all least spanning trees in ascending order."""
    # A spanning tree is least if and only if, for every join, its pairs of that level connect the parts.
    # No part belongs to two joins, so that all joins can be searched at once, as one graph of parts.
    links = links_of(table)
    names = own_sets([part for level, parts in joins_of(table) for part in parts])
    waiting = [(0, (), names)]
    while waiting:
        # What waits can always be completed: no search is in vain, and the first trees come at once.
        at, taken, joined = waiting.pop()
        if len(taken) == len(table) - 1:
            yield taken
        else:
            waiting.extend(ways_on(links, at, taken, joined))
