"""Points [16] to [19], and point [3] for them."""

import inspect
import itertools
import unittest

from mergelevels.groups import clusters_of, groups_at, joins_of, walk_groups
from tests.samples import (
    EQUAL_TWELVE, NESTED_TWELVE, ONE, T, TOP, TWELVE, TWO, U,
    KindChecks, drawn_nested, large_tables, plain_clusters, plain_groups, plain_join, small_tables,
)

LARGE = 10 ** 30 - 1
NESTED = drawn_nested(31, 30, (3, 4, 5, 6), 4) + drawn_nested(32, 5, (6, 12), TOP)
TABLES = small_tables() + NESTED + large_tables() + [T, U]


def table_levels(table):
    """The different levels of the table, ascending."""
    return sorted({level for row in table for level in row})


def levels_around(table):
    """0, each level of the table, its neighbours, the middle between two levels, and large numbers."""
    levels = [0] + table_levels(table)
    around = [level + step for level in levels for step in (-1, 0, 1)]
    around += [(low + high) // 2 for low, high in zip(levels, levels[1:])]
    return sorted({level for level in around if level >= 0} | {TOP, TOP + 1, 10 ** 29, LARGE})


def single_items(table):
    """Each item as a group of its own."""
    return tuple((item,) for item in range(len(table)))


def plain_joins(table):
    """The joins, from the groups at every level of the table."""
    joins = []
    for cluster in plain_clusters(table):
        level = min(level for level in table_levels(table) if cluster in plain_groups(table, level))
        parts = tuple(group for group in plain_groups(table, level - 1) if set(group) <= set(cluster))
        joins.append((level, parts))
    return tuple(sorted(joins))


class TestGroupsAt(unittest.TestCase, KindChecks):
    def test_example(self):
        self.assertEqual(groups_at(T, 3), ((0,), (1, 2, 3)))
        self.assertEqual(groups_at(T, 1), ((0,), (1,), (2,), (3,)))

    def test_level_0(self):
        for table in TABLES:
            self.assertEqual(groups_at(table, 0), single_items(table))

    def test_each_level_and_levels_between(self):
        for table in TABLES:
            for level in levels_around(table):
                with self.subTest(table=table, level=level):
                    self.assertEqual(groups_at(table, level), plain_groups(table, level))

    def test_joining_levels(self):
        for table in small_tables():
            for level in range(6):
                groups = groups_at(table, level)
                self.assertEqual(sorted(itertools.chain(*groups)), list(range(len(table))))
                for one, other in itertools.combinations(range(len(table)), 2):
                    together = any(one in group and other in group for group in groups)
                    self.assertIs(together, plain_join(table, one, other) <= level)

    def test_numbers_of_30_digits(self):
        for table in TABLES:
            for level in (TOP, 10 ** 29, LARGE, LARGE + 1):
                self.assertEqual(groups_at(table, level), (tuple(range(len(table))),))

    def test_one_and_two_items(self):
        for level in (0, 1, TOP, LARGE):
            self.assertEqual(groups_at(ONE, level), ((0,),))
        self.assertEqual(groups_at(TWO, 4), ((0,), (1,)))
        self.assertEqual(groups_at(TWO, 5), ((0, 1),))
        self.assertEqual(groups_at(((), (TOP,)), TOP - 1), ((0,), (1,)))
        self.assertEqual(groups_at(((), (TOP,)), TOP), ((0, 1),))

    def test_twelve_items(self):
        self.assertEqual(groups_at(TWELVE, 6), ((0, 2, 4, 6, 8, 10), (1, 3, 5, 7, 9, 11)))
        self.assertEqual(groups_at(TWELVE, 7), (tuple(range(12)),))
        self.assertEqual(groups_at(EQUAL_TWELVE, 2), single_items(EQUAL_TWELVE))
        self.assertEqual(groups_at(EQUAL_TWELVE, 3), (tuple(range(12)),))
        self.assertEqual(groups_at(NESTED_TWELVE, 99), (tuple(range(10)), (10,), (11,)))

    def test_kinds_and_repeated_calls(self):
        for table in TABLES:
            for level in (0, 2, 3, LARGE):
                self.assert_tuples(groups_at(table, level))
                self.assertEqual(groups_at(table, level), groups_at(table, level))


class TestClustersOf(unittest.TestCase, KindChecks):
    def test_example(self):
        self.assertEqual(clusters_of(T), ((0, 1, 2, 3), (1, 2), (1, 2, 3)))

    def test_groups_at_every_level(self):
        for table in TABLES:
            with self.subTest(table=table):
                self.assertEqual(clusters_of(table), tuple(sorted(plain_clusters(table))))
                found = {group for level in levels_around(table) for group in groups_at(table, level)}
                self.assertEqual(set(clusters_of(table)), {group for group in found if len(group) > 1})
                self.assert_tuples(clusters_of(table))

    def test_one_two_and_twelve_items(self):
        self.assertEqual(clusters_of(ONE), ())
        self.assertEqual(clusters_of(TWO), ((0, 1),))
        self.assertEqual(clusters_of(((), (TOP,))), ((0, 1),))
        self.assertEqual(clusters_of(EQUAL_TWELVE), (tuple(range(12)),))
        self.assertEqual(clusters_of(NESTED_TWELVE), tuple(tuple(range(k)) for k in range(2, 13)))
        self.assertEqual(
            clusters_of(TWELVE), ((0, 1, 2, 3, 4, 5, 6, 7, 8, 9, 10, 11), (0, 2, 4, 6, 8, 10), (1, 3, 5, 7, 9, 11))
        )

    def test_order_of_tuples(self):
        # (0, 5) follows (0, 1, 2, 3, 4, 5), although it is the shorter one.
        table = ((), (9,), (9, 3), (9, 3, 3), (9, 9, 9, 9), (1, 9, 9, 9, 9))
        self.assertEqual(clusters_of(table), ((0, 1, 2, 3, 4, 5), (0, 5), (1, 2, 3)))


class TestJoinsOf(unittest.TestCase, KindChecks):
    def test_example(self):
        self.assertEqual(joins_of(T), ((2, ((1,), (2,))), (3, ((1, 2), (3,))), (4, ((0,), (1, 2, 3)))))

    def test_groups_at_every_level(self):
        for table in TABLES:
            with self.subTest(table=table):
                self.assertEqual(joins_of(table), plain_joins(table))
                self.assert_tuples(joins_of(table))

    def test_one_join_for_each_cluster(self):
        for table in TABLES:
            made = sorted(tuple(sorted(itertools.chain(*parts))) for level, parts in joins_of(table))
            self.assertEqual(tuple(made), clusters_of(table))
            for level, parts in joins_of(table):
                self.assertGreaterEqual(len(parts), 2)
                self.assertTrue(set(parts) <= set(groups_at(table, level - 1)))
                self.assertIn(tuple(sorted(itertools.chain(*parts))), groups_at(table, level))

    def test_one_two_and_twelve_items(self):
        self.assertEqual(joins_of(ONE), ())
        self.assertEqual(joins_of(TWO), ((5, ((0,), (1,))),))
        self.assertEqual(joins_of(((), (1,))), ((1, ((0,), (1,))),))
        self.assertEqual(joins_of(EQUAL_TWELVE), ((3, single_items(EQUAL_TWELVE)),))
        self.assertEqual(joins_of(NESTED_TWELVE), tuple((10 * k, (tuple(range(k)), (k,))) for k in range(1, 12)))
        even, odd = tuple(range(0, 12, 2)), tuple(range(1, 12, 2))
        self.assertEqual(joins_of(TWELVE), (
            (1, tuple((item,) for item in even)), (1, tuple((item,) for item in odd)), (7, (even, odd)),
        ))

    def test_several_joins_at_one_level(self):
        table = ((), (9,), (9, 2), (2, 9, 9), (9, 9, 9, 9), (9, 9, 9, 9, 1))
        self.assertEqual(joins_of(table), (
            (1, ((4,), (5,))), (2, ((0,), (3,))), (2, ((1,), (2,))), (9, ((0, 3), (1, 2), (4, 5))),
        ))


class TestWalkGroups(unittest.TestCase, KindChecks):
    def test_example(self):
        self.assertEqual([level for level, groups in walk_groups(T)], [0, 2, 3, 4])

    def test_generator(self):
        for table in (ONE, T, EQUAL_TWELVE):
            self.assertTrue(inspect.isgenerator(walk_groups(table)))

    def test_0_and_each_level_of_a_join_once(self):
        for table in TABLES:
            levels = [0] + sorted({level for level, parts in joins_of(table)})
            with self.subTest(table=table):
                walked = list(walk_groups(table))
                self.assertEqual(walked, [(level, plain_groups(table, level)) for level in levels])
                for row in walked:
                    self.assert_tuples(row)
                self.assertEqual(list(walk_groups(table)), walked)

    def test_one_two_and_twelve_items(self):
        self.assertEqual(list(walk_groups(ONE)), [(0, ((0,),))])
        self.assertEqual(list(walk_groups(TWO)), [(0, ((0,), (1,))), (5, ((0, 1),))])
        self.assertEqual([level for level, groups in walk_groups(TWELVE)], [0, 1, 7])
        self.assertEqual([level for level, groups in walk_groups(EQUAL_TWELVE)], [0, 3])
        self.assertEqual([level for level, groups in walk_groups(NESTED_TWELVE)], list(range(0, 120, 10)))

    def test_two_walks_at_once(self):
        walks = zip(walk_groups(T), walk_groups(U), walk_groups(T))
        self.assertTrue(all(one == other == third for one, other, third in walks))


if __name__ == "__main__":
    unittest.main()
