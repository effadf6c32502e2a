"""Point [20], and points [2] (a) and [3] for it."""

import copy
import itertools
import random
import unittest

from mergelevels.below import nested_below
from mergelevels.tables import find_fault
from mergelevels.trees import is_tree, table_of, tree_of
from tests.samples import (
    ANY_VALUES, EQUAL_TWELVE, NESTED_TWELVE, ONE, T, TOP, TWELVE, TWO, U,
    KindChecks, all_tables, deep, drawn_nested, large_tables, plain_groups, plain_level, plain_nested, random_tables,
    small_tables,
)

NESTED = drawn_nested(111, 60, range(1, 13), 6) + drawn_nested(112, 20, range(1, 13), TOP) + [ONE, TWO, U]
ODD_PARTS = (
    None, True, False, 0, 1, 2, 3, -1, TOP + 1, "0", "", (), (0,), [], [0], {}, {"a": 0}, (2, 0, 1), (1, 2, 3),
    [2, 0, 1], (2, 0), (True, 0, 1), (2, 0, True), (0, 0, 1), (TOP + 1, 0, 1),
)


def plain_tree(table, items=None):
    """The tree of a nested table, from the top: the groups below the greatest level are the parts."""
    items = tuple(range(len(table))) if items is None else items
    if len(items) == 1:
        return items[0]
    top = max(plain_level(table, one, other) for one, other in itertools.combinations(items, 2))
    parts = [group for group in plain_groups(table, top - 1) if set(group) <= set(items)]
    return (top, *[plain_tree(table, part) for part in parts])


def few_trees(most, top):
    """All trees with at most so many items and levels up to top."""
    return [
        plain_tree(table) for count in range(1, most + 1) for table in all_tables(count, top) if plain_nested(table)
    ]


def places_in(value, path=()):
    """The paths to all parts of nested tuples, the whole included."""
    found = [path]
    if isinstance(value, tuple):
        for at, part in enumerate(value):
            found += places_in(part, (*path, at))
    return found


def replaced_at(value, path, part):
    """Nested tuples with another part at the end of a path."""
    if not path:
        return part
    at, *rest = path
    return (*value[:at], replaced_at(value[at], rest, part), *value[at + 1:])


def removed_at(value, path):
    """Nested tuples without the part at the end of a path, which is not empty."""
    *way, at = path
    whole = value
    for step in way:
        whole = whole[step]
    return replaced_at(value, way, whole[:at] + whole[at + 1:])


class TestTreeOf(unittest.TestCase, KindChecks):
    def test_examples(self):
        self.assertEqual(tree_of(T), (4, 0, (3, (2, 1, 2), 3)))
        self.assertEqual(tree_of(ONE), 0)

    def test_plain_computation(self):
        for table in NESTED + small_tables() + large_tables() + random_tables(113, 10, (8, 12), 20):
            with self.subTest(table=table):
                tree = tree_of(table)
                self.assertEqual(tree, plain_tree(nested_below(table)))
                self.assertIs(is_tree(tree), True)
                self.assert_tuples(tree)
                self.assertEqual(tree_of(table), tree)

    def test_some_tables(self):
        self.assertEqual(tree_of(TWO), (5, 0, 1))
        self.assertEqual(tree_of(((), (TOP,))), (TOP, 0, 1))
        self.assertEqual(tree_of(EQUAL_TWELVE), (3, *range(12)))
        chain = 0
        for item in range(1, 12):
            chain = (10 * item, chain, item)
        self.assertEqual(tree_of(NESTED_TWELVE), chain)
        self.assertEqual(tree_of(TWELVE), (7, (1, 0, 2, 4, 6, 8, 10), (1, 1, 3, 5, 7, 9, 11)))
        # The parts are in the order of their least items, not of their levels or sizes.
        self.assertEqual(tree_of(((), (9,), (9, 1), (2, 9, 9))), (9, (2, 0, 3), (1, 1, 2)))

    def test_equal_levels_of_different_parts(self):
        self.assertEqual(tree_of(((), (1,), (9, 9), (9, 9, 1))), (9, (1, 0, 1), (1, 2, 3)))


class TestTableOf(unittest.TestCase, KindChecks):
    def test_example(self):
        self.assertEqual(table_of((2, 0, 1)), ((), (2,)))

    def test_there_and_back(self):
        for table in NESTED:
            self.assertEqual(table_of(tree_of(table)), table)
            self.assert_tuples(table_of(tree_of(table)))
        for table in small_tables() + large_tables():
            self.assertEqual(table_of(tree_of(table)), nested_below(table))

    def test_all_small_trees(self):
        trees = few_trees(4, 3)
        self.assertEqual(len({repr(tree) for tree in trees}), len(trees))
        for tree in trees:
            table = table_of(tree)
            self.assertIs(find_fault(table), None)
            self.assertTrue(plain_nested(table))
            self.assertEqual(tree_of(table), tree)

    def test_some_trees(self):
        self.assertEqual(table_of(0), ONE)
        self.assertEqual(table_of((3, *range(12))), EQUAL_TWELVE)
        self.assertEqual(table_of((4, 0, (3, (2, 1, 2), 3))), U)
        self.assertEqual(table_of((TOP, 0, (1, 1, 2))), ((), (TOP,), (TOP, 1)))


class TestIsTree(unittest.TestCase):
    def check(self, value, wanted):
        before = copy.deepcopy(value)
        with self.subTest(value=value):
            self.assertIs(is_tree(value), wanted)
            self.assertEqual(value, before)

    def test_examples(self):
        self.check((2, 0, 1), True)
        self.check((2, 1, 0), False)

    def test_trees(self):
        for tree in few_trees(4, 3) + [tree_of(table) for table in NESTED + large_tables()]:
            self.check(tree, True)

    def test_single_items(self):
        self.check(0, True)
        for value in (1, 2, 11, 12, -1, True, False, (0,), (1, 0), (0, 0), [0], "0", None, 10 ** 30 - 1):
            self.check(value, False)

    def test_one_or_two_places_changed(self):
        every = {repr(tree) for tree in few_trees(5, 3)}
        source = random.Random(114)
        seen = {True: 0, False: 0}
        for tree in few_trees(3, 3):
            places = places_in(tree)
            for path, part in itertools.product(places, ODD_PARTS):
                changed = replaced_at(tree, path, part)
                wanted = repr(changed) in every
                self.check(changed, wanted)
                seen[wanted] += 1
                for _ in range(4):
                    path, part = source.choice(places_in(changed)), source.choice(ODD_PARTS)
                    twice = replaced_at(changed, path, part)
                    self.check(twice, repr(twice) in every)
            for path in places[1:]:
                self.check(removed_at(tree, path), repr(removed_at(tree, path)) in every)
        self.assertGreater(min(seen.values()), 40)

    def test_parts_in_another_order(self):
        for tree in few_trees(4, 2):
            for path in places_in(tree):
                part = tree
                for step in path:
                    part = part[step]
                if isinstance(part, tuple):
                    for parts in itertools.permutations(part[1:]):
                        changed = replaced_at(tree, path, (part[0], *parts))
                        self.check(changed, changed == tree)

    def test_places_of_large_trees(self):
        for tree in [tree_of(table) for table in NESTED if len(table) > 6]:
            for path in places_in(tree)[1:]:
                for part in (None, True, False, 12, -1, TOP + 1, "1", (), [1], {}, tree):
                    # A level may be another one, but none of these.
                    if not (path[-1] == 0 and part == 12):
                        self.check(replaced_at(tree, path, part), False)
            for path in places_in(tree)[1:]:
                if path[-1] == 0:
                    self.check(removed_at(tree, path), False)

    def test_levels_that_are_not_lower(self):
        self.check((3, 0, (2, 1, 2)), True)
        self.check((3, 0, (3, 1, 2)), False)
        self.check((3, 0, (4, 1, 2)), False)
        self.check((9, 0, (5, 1, (4, 2, 3))), True)
        self.check((9, 0, (5, 1, (5, 2, 3))), False)
        self.check((9, 0, (5, 1, (7, 2, 3))), False)

    def test_levels_at_the_edges(self):
        for level in (1, TOP):
            self.check((level, 0, 1), True)
        for level in (0, -1, TOP + 1, 10 ** 30 - 1, True, False, None, "2", (), (2,), [2]):
            self.check((level, 0, 1), False)
            self.check((TOP, 0, (level, 1, 2)), False)
        self.check((TOP, 0, (TOP - 1, 1, 2)), True)

    def test_single_parts_and_none(self):
        for value in ((), (2,), (2, 0), (3, (2, 0, 1)), (3, (2, 0, 1), (1, 2)), (4, 0, (3, (2, 1, 2)))):
            self.check(value, False)

    def test_items(self):
        self.check((2, 0, 0), False)
        self.check((2, 0, 2), False)
        self.check((2, 1, 2), False)
        self.check((3, 0, (2, 0, 1)), False)
        self.check((3, (2, 0, 1), 1), False)
        self.check((3, (2, 0, 2), 1), True)
        self.check((3, (2, 0, 1), 3), False)
        self.check((2, 0, True), False)
        self.check((2, False, 1), False)
        self.check((2, *range(12)), True)
        self.check((2, *range(13)), False)
        self.check((3, (2, *range(12)), 12), False)
        self.check((2, *range(11), 12), False)
        self.check((2, 0, *range(12)), False)

    def test_lists(self):
        self.check([2, 0, 1], False)
        self.check((3, 0, [2, 1, 2]), False)
        self.check((3, [0], 1), False)
        self.check(([3], 0, 1), False)

    def test_values_of_all_kinds(self):
        for value in ANY_VALUES:
            self.check(value, value.__class__ is int and value == 0 or value in ((2, 0, 1), (3, (2, 0, 1), 2)))
            self.check((2, value), False)
            self.check((2, 0, 1, value), value.__class__ is int and value == 2)
        self.check((1,) * 4000, False)
        self.check((3, *((2, 0, 1),) * 1000), False)

    def test_forty_deep(self):
        for value in (deep(40), deep(40, list), (2, 0, deep(38)), (2, deep(38), 1)):
            self.check(value, False)
        for many in (5, 12, 13, 40):
            value = 0
            for item in range(1, many):
                value = (item, value, item)
            self.check(value, many <= 12)
        value = (1, 0, 1)
        for level in range(2, 41):
            value = (level, value)
        self.check(value, False)
        value = (1, 10, 11)
        for item in range(9, -1, -1):
            value = (12 - item, item, value)
        self.check(value, True)


class TestOneToOne(unittest.TestCase):
    """Point [2] (a): nested tables and trees correspond to each other, one to one."""

    def test_small_tables(self):
        for count, top in ((1, 1), (2, 4), (3, 4), (4, 3)):
            nested = [table for table in all_tables(count, top) if plain_nested(table)]
            trees = [tree_of(table) for table in nested]
            self.assertEqual(len({repr(tree) for tree in trees}), len(nested))
            self.assertEqual([table_of(tree) for tree in trees], nested)


if __name__ == "__main__":
    unittest.main()
