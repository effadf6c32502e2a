"""The number of nested tables."""


def chosen(count, size):
    """Returns the number of ways to choose size out of count things."""
    number = 1
    for at in range(size):
        # What stands here is the number of ways to choose at things, and after the division that for one more.
        number = number * (count - at) // (at + 1)
    return number


def with_further_level(numbers):
    """Returns the numbers of nested tables if one level more can occur; numbers[k] is that of tables with k items."""
    # Below the new level the items are in groups, each with a nested table of its own. The group of the
    # first item has so many other items, and what is left is any choice of groups again, 1 if nothing is left.
    found = [1]
    for count in range(1, len(numbers)):
        found.append(sum([
            chosen(count - 1, others) * numbers[others + 1] * found[count - 1 - others] for others in range(count)
        ]))
    return found


def counts_by_levels(count, levels):
    """Returns the numbers of nested tables with count items whose levels are at most 0, 1, .. levels."""
    # Without levels there is only the table with one item.
    numbers = [1, 1] + [0] * (count - 1)
    found = [numbers[count]]
    while len(found) <= levels:
        numbers = with_further_level(numbers)
        found.append(numbers[count])
    return found


def count_nested(count, levels, *, every=False):
    """Returns the number of nested tables whose levels are at most levels, or are all those from 1 to levels."""
    found = counts_by_levels(count, levels)
    if not every:
        return found[levels]
    # Which levels occur does not matter, only how many: so each round of differences counts, for tables in
    # which one further level must occur, those with at most 0, 1, .. other levels.
    while len(found) > 1:
        found = [more - fewer for fewer, more in zip(found, found[1:])]
    return found[0]
