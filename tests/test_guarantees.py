"""Point [2], (b), (c), (d), (e) and (h), over drawn tables."""

import itertools
import unittest

from mergelevels.below import nested_below
from mergelevels.deviations import check_deviation, deviation_between, greatest_gap, least_deviation
from mergelevels.groups import clusters_of, joins_of
from mergelevels.orders import greatest_of, is_below, ranked, regraded
from mergelevels.spanning import (
    count_least_trees, is_least_tree, least_tree, least_trees, possible_pairs, sure_pairs, tree_levels,
)
from mergelevels.tables import is_nested, levels_of
from tests.samples import (
    ONE, T, TOP, TWO, U, all_paths, all_spanning_trees, all_tables, drawn_nested, large_tables, plain_nested,
    plain_sum, random_tables,
)

DRAWN = random_tables(71, 40, (3, 4, 5), 5) + random_tables(72, 10, (4, 5), TOP) + [ONE, TWO, T, U]
NESTED = drawn_nested(73, 20, (3, 4, 5), 5)


class TestNestedTablesBelow(unittest.TestCase):
    """(b) Every nested table that is below the table is below the table of the joining levels."""

    def test_drawn_nested_tables(self):
        seen = 0
        for count in (4, 6, 12):
            nested = drawn_nested(count, 60, (count,), 20)
            for table in random_tables(count + 1, 10, (count,), 40):
                for lower in nested:
                    # This table is above the nested one, whatever was drawn.
                    above = greatest_of(table, lower)
                    self.assertTrue(is_below(lower, nested_below(above)))
                    if is_below(lower, table):
                        seen += 1
                        self.assertTrue(is_below(lower, nested_below(table)))
        self.assertGreater(seen, 10)

    def test_the_table_of_the_joining_levels_is_one_of_them(self):
        for table in DRAWN + NESTED + large_tables():
            self.assertTrue(is_below(nested_below(table), table))
            self.assertTrue(is_nested(nested_below(table)))


class TestLeastSpanningTrees(unittest.TestCase):
    """(c) The least spanning trees are exactly those whose greatest steps are the joining levels."""

    def test_all_spanning_trees_of_drawn_tables(self):
        trees = {count: all_spanning_trees(count) for count in range(1, 6)}
        for table in DRAWN + NESTED:
            below = nested_below(table)
            least = min(plain_sum(table, tree) for tree in trees[len(table)])
            for tree in trees[len(table)]:
                with self.subTest(table=table, tree=tree):
                    equal = tree_levels(table, tree) == below
                    self.assertIs(equal, plain_sum(table, tree) == least)
                    self.assertIs(equal, is_least_tree(table, tree))

    def test_least_trees_of_large_tables(self):
        for table in large_tables():
            self.assertEqual(tree_levels(table, least_tree(table)), nested_below(table))
            for tree in itertools.islice(least_trees(table), 20):
                self.assertEqual(tree_levels(table, tree), nested_below(table))


class TestLeastDeviation(unittest.TestCase):
    """(d) The least deviation is half of the greatest gap, rounded up, and every certificate shows it."""

    def test_no_nested_table_is_nearer(self):
        nested = [table for table in all_tables(4, 4) if plain_nested(table)]
        for table in random_tables(74, 60, (4,), 4):
            nearest = min(deviation_between(table, near) for near in nested)
            self.assertEqual(nearest, least_deviation(table))
            self.assertEqual(nearest, -(-greatest_gap(table) // 2))

    def test_whatever_is_accepted(self):
        nested = [table for table in all_tables(4, 4) if plain_nested(table)]
        ends = list(itertools.product(range(4), repeat=2))
        accepted = 0
        for table in random_tables(75, 12, (4,), 4):
            paths = [path for one, other in ends for path in all_paths(table, one, other)]
            for near, path in itertools.product(nested, paths):
                if check_deviation(table, (near, path)):
                    accepted += 1
                    self.assertEqual(deviation_between(table, near), least_deviation(table))
        self.assertGreater(accepted, 100)


class TestGreatestOfNestedTables(unittest.TestCase):
    """(e) The greatest of nested tables, place by place, is nested."""

    def test_drawn_nested_tables(self):
        for count in (1, 2, 3, 5, 8, 12):
            drawn = drawn_nested(76 + count, 24, (count,), 9) + drawn_nested(77 + count, 6, (count,), TOP)
            for size in (1, 2, 3, 5):
                for start in range(0, len(drawn) - size, size):
                    self.assertTrue(plain_nested(greatest_of(*drawn[start:start + size])))


class TestOtherLevelsInTheSameOrder(unittest.TestCase):
    """(h) Clusters, the parts of joins and least spanning trees stay."""

    def changed_tables(self, table):
        count = len(levels_of(table))
        ranks = range(1, count + 1)
        return [
            ranked(table),
            regraded(table, tuple(rank ** 3 + 5 for rank in ranks)),
            regraded(table, tuple(TOP - count + rank for rank in ranks)),
            regraded(table, tuple(min(3 ** rank, TOP - count + rank) for rank in ranks)),
        ]

    def test_drawn_tables(self):
        for table in DRAWN + NESTED + large_tables():
            for other in self.changed_tables(table):
                with self.subTest(table=table, other=other):
                    self.assertEqual(clusters_of(other), clusters_of(table))
                    parts = sorted(parts for level, parts in joins_of(table))
                    self.assertEqual(sorted(parts for level, parts in joins_of(other)), parts)
                    self.assertEqual(least_tree(other), least_tree(table))
                    self.assertEqual(count_least_trees(other), count_least_trees(table))
                    self.assertEqual(sure_pairs(other), sure_pairs(table))
                    self.assertEqual(possible_pairs(other), possible_pairs(table))
                    few = list(itertools.islice(least_trees(table), 130))
                    self.assertEqual(list(itertools.islice(least_trees(other), 130)), few)

    def test_all_least_trees_of_drawn_tables(self):
        for table in DRAWN + NESTED:
            trees = all_spanning_trees(len(table))
            least = [tree for tree in trees if is_least_tree(table, tree)]
            for other in self.changed_tables(table)[:2]:
                self.assertEqual([tree for tree in trees if is_least_tree(other, tree)], least)


if __name__ == "__main__":
    unittest.main()
