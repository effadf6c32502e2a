"""Tables, values and plain searches that the tests share."""

import contextlib
import copy
import itertools
import random
import signal

from mergelevels.errors import NoSuchItem, SameItem

TOP = 10 ** 12

T = ((), (4,), (6, 2), (6, 6, 3))
U = ((), (4,), (4, 2), (4, 3, 3))
ONE = ((),)
TWO = ((), (5,))
# Two cheap chains, 0-2-4-6-8-10 and 1-3-5-7-9-11, with one expensive bridge from 0 to 11.
TWELVE = tuple(
    tuple(1 if i - j == 2 else 7 if (i, j) == (11, 0) else TOP for j in range(i)) for i in range(12)
)
EQUAL_TWELVE = tuple(tuple(3 for j in range(i)) for i in range(12))
NESTED_TWELVE = tuple(tuple(10 * i for j in range(i)) for i in range(12))

# Values of all the kinds that may stand where any value is accepted.
ODD_VALUES = (
    None, True, False, 0, 1, -1, 5, 10 ** 30 - 1, -(10 ** 30 - 1), "", "a", "((),)", "x" * 400, "a\nb",
    (), [], {}, [()], [(), (4,)], [[], [4]], {"a": 1}, {"": ((),)}, (None,), (True,), (0,), ("",),
    (((),),), ([],), ({},), ("a", "b"), ((0, 1), (0,), (1,)),
)


def deep(depth, kind=tuple):
    """A value that is nested so deep."""
    value = kind()
    for _ in range(depth):
        value = kind([value])
    return value


# Further ones: nested forty deep, with many parts, and values that the package itself takes and returns.
ANY_VALUES = ODD_VALUES + (
    deep(40), deep(40, list), {"a": deep(38, list)}, (0,) * 4000, [None] * 4000, "line\n" * 80,
    T, list(T), [list(row) for row in T], (0, 1), (0, 1, 2), (0, (1,)), ((0, 1), (1, 2)), (0, 1, (0, 1)),
    ((1, 0), "level"), ("drop", 0), [("drop", 0)], ("begin", 1), (2, 0, 1), (3, (2, 0, 1), 2),
    2, 11, 12, 13, 60, TOP, TOP + 1, "drop", "items 1\n", "top",
)


def non_items(count):
    """Values that are not items of a table with count items."""
    return [
        count, count + 1, -1, -count, 10 ** 30 - 1, True, False, None, "0", "", "item",
        [], [0], (), (0,), (0, 1), {}, {"0": 0}, deep(40), deep(40, list),
    ]


def non_levels():
    """Values that are not levels."""
    return [value for value in ANY_VALUES if not is_plain_level(value)] + [0, -TOP, TOP + 1, TOP + 7, "5", (5,), [5]]


def is_plain_level(value):
    """Whether a value is a level."""
    return value.__class__ is int and 1 <= value <= TOP


def table_from(count, levels):
    """The table whose rows contain the levels, one row after the other."""
    rest = iter(levels)
    return tuple(tuple(next(rest) for _ in range(i)) for i in range(count))


def all_tables(count, top):
    """All tables with count items and levels from 1 to top."""
    size = count * (count - 1) // 2
    return [table_from(count, levels) for levels in itertools.product(range(1, top + 1), repeat=size)]


def random_tables(seed, many, counts, top):
    """Tables that look random, but are the same in each run."""
    source = random.Random(seed)
    tables = []
    for _ in range(many):
        count = source.choice(counts)
        tables.append(tuple(tuple(source.randint(1, top) for _ in range(i)) for i in range(count)))
    return tables


def drawn_nested(seed, many, counts, top):
    """Nested tables that look random, but are the same in each run: groups join until all are one."""
    source = random.Random(seed)
    tables = []
    for _ in range(many):
        count = source.choice(counts)
        rows = [[0] * i for i in range(count)]
        groups = [[item] for item in range(count)]
        for level in sorted(source.randint(1, top) for _ in range(count - 1)):
            one = groups.pop(source.randrange(len(groups)))
            other = groups.pop(source.randrange(len(groups)))
            for low, high in itertools.product(one, other):
                rows[max(low, high)][min(low, high)] = level
            groups.append(one + other)
        tables.append(tuple(tuple(row) for row in rows))
    return tables


def large_tables():
    """Tables of eleven and twelve items: with equal levels, nested ones, and others."""
    drawn = random_tables(7, 4, (11, 12), 30) + random_tables(17, 2, (12,), 3) + random_tables(18, 2, (12,), TOP)
    return [TWELVE, EQUAL_TWELVE, NESTED_TWELVE] + drawn + drawn_nested(19, 4, (11, 12), 6)


def small_tables():
    """Tables that are small enough for a search over all paths."""
    few = all_tables(1, 1) + all_tables(2, 3) + all_tables(3, 3)
    return few + random_tables(1, 60, (4, 5), 4) + random_tables(2, 12, (6,), 6) + random_tables(3, 6, (6,), TOP)


def pairs(table):
    """All pairs, ascending."""
    return list(itertools.combinations(range(len(table)), 2))


def plain_level(table, one, other):
    """The level between two items."""
    return 0 if one == other else table[one][other] if other < one else table[other][one]


def plain_height(table, path):
    """The greatest step of a path."""
    return max([0] + [plain_level(table, path[k], path[k + 1]) for k in range(len(path) - 1)])


def plain_width(table, division):
    """The least level between an item of the division and another item."""
    outside = set(range(len(table))) - set(division)
    return min(plain_level(table, one, other) for one in division for other in outside)


def all_paths(table, one, other):
    """All paths from one item to another or to itself."""
    if one == other:
        return [(one,)]
    between = [item for item in range(len(table)) if item not in (one, other)]
    return [
        (one, *middle, other)
        for size in range(len(between) + 1)
        for middle in itertools.permutations(between, size)
    ]


def all_divisions(table):
    """All divisions."""
    count = len(table)
    return [part for size in range(1, count) for part in itertools.combinations(range(count), size)]


def plain_join(table, one, other):
    """The joining level, by a search over all paths."""
    return min(plain_height(table, path) for path in all_paths(table, one, other))


def plain_nested(table):
    """Whether the greatest level of any three items occurs twice."""
    for trio in itertools.combinations(range(len(table)), 3):
        levels = [plain_level(table, one, other) for one, other in itertools.combinations(trio, 2)]
        if levels.count(max(levels)) < 2:
            return False
    return True


def is_lower(one, other):
    """Whether no level of one table is greater than that of the other one."""
    return all(x <= y for row, upper in zip(one, other) for x, y in zip(row, upper))


def plain_groups(table, level):
    """The groups at a level, by walking along all steps that are not greater."""
    groups = []
    for start in range(len(table)):
        if not any(start in group for group in groups):
            group = [start]
            for item in group:
                # The list grows while the loop walks through it.
                group += [
                    other for other in range(len(table))
                    if other not in group and plain_level(table, item, other) <= level
                ]
            groups.append(tuple(sorted(group)))
    return tuple(sorted(groups))


def plain_clusters(table):
    """The set of the groups of at least two items at the levels of the table: there are no others elsewhere."""
    levels = {level for row in table for level in row}
    return {group for level in levels for group in plain_groups(table, level) if len(group) >= 2}


def plain_connected(count, links):
    """Whether the pairs connect all items from 0 to count - 1."""
    reached = [0]
    for item in reached:
        for link in links:
            if item in link:
                reached += [end for end in link if end not in reached]
    return len(reached) == count


def all_spanning_trees(count):
    """All spanning trees of count items, ascending."""
    links = list(itertools.combinations(range(count), 2))
    return [tree for tree in itertools.combinations(links, count - 1) if plain_connected(count, tree)]


def plain_sum(table, tree):
    """The sum of the levels of the pairs."""
    return sum(plain_level(table, one, other) for one, other in tree)


def plain_deviation(table, near):
    """The greatest difference of two levels at the same place."""
    return max([0] + [abs(plain_level(table, *pair) - plain_level(near, *pair)) for pair in pairs(table)])


def opened(source, table, share):
    """The table with None in the place of about so many of its levels in a hundred; source is a random.Random."""
    return tuple(tuple(None if source.randrange(100) < share else level for level in row) for row in table)


def drawn_open_tables(seed, many, counts, top):
    """Open tables that look random, but are the same in each run; some of them have fillings, some have none."""
    source = random.Random(seed)
    tables = []
    for number in range(many):
        draw = random_tables if number % 3 == 0 else drawn_nested
        table = draw(source.randrange(10 ** 6), 1, counts, top)[0]
        tables.append(opened(source, table, (20, 50, 80)[number // 3 % 3]))
    return tables


@contextlib.contextmanager
def time_limit(seconds):
    """Fails if the rows inside take longer, instead of waiting for them."""
    def stop(number, frame):
        raise AssertionError(f"not finished after {seconds} seconds")

    before = signal.signal(signal.SIGALRM, stop)
    signal.alarm(seconds)
    try:
        yield
    finally:
        signal.alarm(0)
        signal.signal(signal.SIGALRM, before)


class KindChecks:
    """Checks of the kinds of results."""

    def assert_tuples(self, value):
        """The value consists of tuples and integers only, all through."""
        self.assertIn(value.__class__, (tuple, int))
        if isinstance(value, tuple):
            for part in value:
                self.assert_tuples(part)


class ErrorChecks:
    """Checks of the errors of any functions."""

    def assert_error(self, error_class, fields, function, *arguments, **named):
        """The call raises the very error, with these values in its fields."""
        before = copy.deepcopy(arguments)
        with self.assertRaises(error_class) as caught:
            function(*arguments, **named)
        self.assertIs(caught.exception.__class__, error_class)
        self.assertEqual(vars(caught.exception), fields)
        self.assertEqual(arguments, before)

    def assert_very(self, error_class, field, value, function, *arguments):
        """The call raises the very error, with this very value in its only field."""
        self.assert_error(error_class, {field: value}, function, *arguments)
        try:
            function(*arguments)
        except error_class as error:
            self.assertIs(getattr(error, field), value)


class ItemChecks:
    """Checks of the errors that functions of two items raise."""

    def assert_field(self, error_class, value, function, *arguments):
        """The call raises the error, with this very value as its item."""
        with self.assertRaises(error_class) as caught:
            function(*arguments)
        self.assertIs(caught.exception.__class__, error_class)
        self.assertIs(caught.exception.item, value)

    def check_no_items(self, function, *rest):
        """Values that are no items, in the first place, in the second one and in both."""
        for table in (ONE, TWO, T, TWELVE):
            for bad in non_items(len(table)):
                for good in range(len(table)):
                    with self.subTest(count=len(table), bad=bad, good=good):
                        self.assert_field(NoSuchItem, bad, function, table, bad, good, *rest)
                        self.assert_field(NoSuchItem, bad, function, table, good, bad, *rest)
                for worse in ([len(table)], "z", len(table) + 7):
                    self.assert_field(NoSuchItem, bad, function, table, bad, worse, *rest)
                    self.assert_field(NoSuchItem, worse, function, table, worse, bad, *rest)
                self.assert_field(NoSuchItem, bad, function, table, bad, bad, *rest)

    def check_same_item(self, function, *rest):
        """The same item twice."""
        for table in (ONE, TWO, T, TWELVE):
            for item in range(len(table)):
                with self.subTest(count=len(table), item=item):
                    self.assert_field(SameItem, item, function, table, item, item, *rest)
