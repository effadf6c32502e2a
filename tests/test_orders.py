"""Points [32] to [38], and point [3] for them."""

import copy
import itertools
import unittest

from mergelevels.errors import InvalidLevels, UnequalSizes
from mergelevels.groups import clusters_of
from mergelevels.orders import (
    below_all, common_clusters, greatest_of, has_same_groups, is_below, ranked, regraded,
)
from mergelevels.tables import find_fault, levels_of
from tests.samples import (
    EQUAL_TWELVE, NESTED_TWELVE, ODD_VALUES, ONE, T, TOP, TWELVE, TWO, U,
    KindChecks, all_tables, deep, drawn_nested, is_lower, large_tables, pairs, plain_clusters, plain_level,
    plain_nested, random_tables, small_tables, table_from,
)

NESTED = drawn_nested(61, 12, (3, 4, 5), 5) + drawn_nested(62, 3, (6, 12), TOP)
TABLES = small_tables() + NESTED + large_tables() + [T, U]
V = ((), (1,), (9, 9), (9, 9, 9))


def drawn_lists():
    """Lists of one to four tables with as many items."""
    lists = []
    for seed, count in enumerate((1, 2, 3, 4, 5, 7, 12)):
        for top in (2, 6, TOP):
            drawn = random_tables(seed + 100 * (top % 99), 5, (count,), top)
            drawn += drawn_nested(seed + 7 + 100 * (top % 99), 5, (count,), top)
            lists += [drawn[:1], drawn[1:3], drawn[4:6], drawn[6:7], drawn[7:10], drawn[3:7]]
    return lists


class SizeChecks(KindChecks):
    """Checks of UnequalSizes."""

    def check_unequal(self, index, function, *tables):
        with self.subTest(tables=tables):
            with self.assertRaises(UnequalSizes) as caught:
                function(*tables)
            self.assertIs(caught.exception.__class__, UnequalSizes)
            self.assertEqual(caught.exception.index, index)

    def check_two(self, function):
        tables = (ONE, TWO, ((), (1,), (2, 2)), T, EQUAL_TWELVE[:11], EQUAL_TWELVE)
        for one, other in itertools.permutations(tables, 2):
            self.check_unequal(1, function, one, other)

    def check_several(self, function):
        self.check_two(function)
        for count in (2, 3, 5):
            for place in range(1, count):
                for odd in (ONE, TWO, EQUAL_TWELVE):
                    tables = [T, U, V, U, T][:count]
                    tables[place] = odd
                    self.check_unequal(place, function, *tables)
                    # The first table of another size counts, not the last one and not the smallest one.
                    for later in range(place, count):
                        self.check_unequal(place, function, *tables[:later + 1], TWO, *tables[later + 1:])
        # The first table alone has another size: then the second one is the first that differs from it.
        self.check_unequal(1, function, ONE, T, U, V)
        self.check_unequal(2, function, ONE, ONE, T, ONE, U)


class TestIsBelow(unittest.TestCase, SizeChecks):
    def test_example(self):
        self.assertEqual((is_below(U, T), is_below(T, U)), (True, False))

    def test_all_small_tables(self):
        for count, top in ((1, 1), (2, 3), (3, 3)):
            for one, other in itertools.product(all_tables(count, top), repeat=2):
                wanted = all(plain_level(one, *pair) <= plain_level(other, *pair) for pair in pairs(one))
                self.assertIs(is_below(one, other), wanted)

    def test_one_two_and_twelve_items(self):
        self.assertIs(is_below(ONE, ONE), True)
        self.assertIs(is_below(TWO, TWO), True)
        self.assertIs(is_below(((), (TOP - 1,)), ((), (TOP,))), True)
        self.assertIs(is_below(((), (TOP,)), ((), (TOP - 1,))), False)
        self.assertIs(is_below(EQUAL_TWELVE, NESTED_TWELVE), True)
        self.assertIs(is_below(NESTED_TWELVE, EQUAL_TWELVE), False)
        self.assertIs(is_below(TWELVE, EQUAL_TWELVE), False)
        self.assertIs(is_below(EQUAL_TWELVE, TWELVE), False)

    def test_one_place_of_twelve_items(self):
        for i, j in ((1, 0), (11, 0), (11, 10), (6, 3)):
            rows = [list(row) for row in EQUAL_TWELVE]
            rows[i][j] = 4
            changed = tuple(tuple(row) for row in rows)
            self.assertIs(is_below(EQUAL_TWELVE, changed), True)
            self.assertIs(is_below(changed, EQUAL_TWELVE), False)

    def test_sizes(self):
        self.check_two(is_below)


class TestGreatestOf(unittest.TestCase, SizeChecks):
    def test_example(self):
        self.assertEqual(greatest_of(U, V), ((), (4,), (9, 9), (9, 9, 9)))

    def test_place_by_place(self):
        for tables in drawn_lists():
            wanted = tuple(
                tuple(max(table[i][j] for table in tables) for j in range(i)) for i in range(len(tables[0]))
            )
            with self.subTest(tables=tables):
                self.assertEqual(greatest_of(*tables), wanted)
                self.assertEqual(greatest_of(*tables[::-1]), wanted)
                self.assert_tuples(greatest_of(*tables))

    def test_one_table(self):
        for table in TABLES:
            self.assertEqual(greatest_of(table), table)
            self.assertEqual(greatest_of(table, table, table), table)

    def test_nested_tables(self):
        nested = [table for table in all_tables(4, 3) if plain_nested(table)]
        for one, other in itertools.product(nested, repeat=2):
            self.assertTrue(plain_nested(greatest_of(one, other)))

    def test_many_tables(self):
        tables = [table_from(2, [level]) for level in range(1, 40)]
        self.assertEqual(greatest_of(*tables), ((), (39,)))

    def test_sizes(self):
        self.check_several(greatest_of)


class TestBelowAll(unittest.TestCase, SizeChecks):
    def test_example(self):
        self.assertEqual(below_all(T, ((), (9,), (9, 1), (9, 9, 9))), ((), (4,), (4, 1), (4, 3, 3)))

    def test_search_over_all_nested_tables(self):
        nested = [table for table in all_tables(3, 4) if plain_nested(table)]
        for one, other in itertools.product(all_tables(3, 4)[::3], repeat=2):
            found = below_all(one, other)
            lower = [table for table in nested if is_lower(table, one) and is_lower(table, other)]
            self.assertIn(found, lower)
            self.assertTrue(all(is_lower(table, found) for table in lower))

    def test_three_tables_of_four_items(self):
        nested = [table for table in all_tables(4, 3) if plain_nested(table)]
        drawn = random_tables(63, 60, (4,), 3)
        for tables in zip(drawn[::3], drawn[1::3], drawn[2::3]):
            found = below_all(*tables)
            lower = [low for low in nested if all(is_lower(low, table) for table in tables)]
            self.assertIn(found, lower)
            self.assertTrue(all(is_lower(table, found) for table in lower))

    def test_a_nested_table_below(self):
        for tables in drawn_lists():
            found = below_all(*tables)
            self.assertIs(find_fault(found), None)
            self.assert_tuples(found)
            self.assertTrue(plain_nested(found))
            self.assertTrue(all(is_lower(found, table) for table in tables))
            self.assertEqual(below_all(*tables[::-1]), found)

    def test_nested_tables_whose_least_levels_are_not_nested(self):
        one, other = ((), (1,), (9, 9)), ((), (9,), (9, 1))
        self.assertEqual(below_all(one, other), ((), (1,), (1, 1)))

    def test_one_table(self):
        self.assertEqual(below_all(ONE), ONE)
        self.assertEqual(below_all(ONE, ONE), ONE)
        self.assertEqual(below_all(TWO, ((), (TOP,)), ((), (3,))), ((), (3,)))
        self.assertEqual(below_all(T), U)
        self.assertEqual(below_all(T, T), U)
        self.assertEqual(below_all(EQUAL_TWELVE, NESTED_TWELVE), EQUAL_TWELVE)
        for table in NESTED:
            self.assertEqual(below_all(table), table)

    def test_sizes(self):
        self.check_several(below_all)


class TestCommonClusters(unittest.TestCase, SizeChecks):
    def test_example(self):
        self.assertEqual(common_clusters(T, V), ((0, 1, 2, 3),))

    def test_drawn_tables(self):
        for tables in drawn_lists():
            shared = set.intersection(*[plain_clusters(table) for table in tables])
            with self.subTest(tables=tables):
                self.assertEqual(common_clusters(*tables), tuple(sorted(shared)))
                self.assertEqual(common_clusters(*tables[::-1]), tuple(sorted(shared)))
                self.assert_tuples(common_clusters(*tables))

    def test_one_table(self):
        for table in TABLES:
            self.assertEqual(common_clusters(table), clusters_of(table))
            self.assertEqual(common_clusters(table, table), clusters_of(table))

    def test_some_tables(self):
        self.assertEqual(common_clusters(ONE), ())
        self.assertEqual(common_clusters(ONE, ONE, ONE), ())
        self.assertEqual(common_clusters(TWO, ((), (TOP,))), ((0, 1),))
        self.assertEqual(common_clusters(T, U), ((0, 1, 2, 3), (1, 2), (1, 2, 3)))
        self.assertEqual(common_clusters(T, U, ((), (9,), (9, 7), (9, 9, 9))), ((0, 1, 2, 3), (1, 2)))
        self.assertEqual(common_clusters(EQUAL_TWELVE, NESTED_TWELVE, TWELVE), (tuple(range(12)),))
        # Each two of these share more than all three do.
        first, second = ((), (1,), (3, 3), (3, 3, 1)), ((), (1,), (3, 3), (3, 3, 3))
        third = ((), (3,), (3, 3), (3, 3, 1))
        self.assertEqual(common_clusters(first, second), ((0, 1), (0, 1, 2, 3)))
        self.assertEqual(common_clusters(first, third), ((0, 1, 2, 3), (2, 3)))
        self.assertEqual(common_clusters(first, second, third), ((0, 1, 2, 3),))

    def test_sizes(self):
        self.check_several(common_clusters)


class TestHasSameGroups(unittest.TestCase, SizeChecks):
    def test_example(self):
        self.assertEqual((has_same_groups(T, U), has_same_groups(T, V)), (True, False))

    def test_all_small_tables(self):
        for count, top in ((1, 1), (2, 3), (3, 3)):
            for one, other in itertools.product(all_tables(count, top), repeat=2):
                self.assertIs(has_same_groups(one, other), plain_clusters(one) == plain_clusters(other))

    def test_drawn_tables(self):
        for tables in drawn_lists():
            for one, other in itertools.product(tables, repeat=2):
                self.assertIs(has_same_groups(one, other), plain_clusters(one) == plain_clusters(other))

    def test_some_tables(self):
        self.assertIs(has_same_groups(ONE, ONE), True)
        self.assertIs(has_same_groups(TWO, ((), (TOP,))), True)
        # The same clusters, but in another order of the levels.
        self.assertIs(has_same_groups(((), (1,), (9, 9), (9, 9, 2)), ((), (7,), (8, 8), (8, 8, 3))), True)
        self.assertIs(has_same_groups(NESTED_TWELVE, EQUAL_TWELVE), False)
        # All clusters of one table are clusters of the other one, but not the other way round.
        self.assertIs(has_same_groups(V, ((), (1,), (9, 9), (9, 9, 2))), False)
        self.assertIs(has_same_groups(((), (1,), (9, 9), (9, 9, 2)), V), False)

    def test_sizes(self):
        self.check_two(has_same_groups)


class TestRanked(unittest.TestCase, KindChecks):
    def test_example(self):
        self.assertEqual(ranked(T), ((), (3,), (4, 1), (4, 4, 2)))

    def test_numbers_of_the_levels(self):
        for table in TABLES:
            levels = sorted({level for row in table for level in row})
            wanted = tuple(tuple(levels.index(level) + 1 for level in row) for row in table)
            with self.subTest(table=table):
                self.assertEqual(ranked(table), wanted)
                self.assertEqual(ranked(wanted), wanted)
                self.assert_tuples(ranked(table))

    def test_one_two_and_twelve_items(self):
        self.assertEqual(ranked(ONE), ONE)
        self.assertEqual(ranked(TWO), ((), (1,)))
        self.assertEqual(ranked(((), (TOP,))), ((), (1,)))
        self.assertEqual(ranked(EQUAL_TWELVE), tuple((1,) * i for i in range(12)))
        self.assertEqual(ranked(NESTED_TWELVE), tuple((i,) * i for i in range(12)))
        different = table_from(12, [TOP - 3 * k for k in range(66)])
        self.assertEqual(ranked(different), table_from(12, range(66, 0, -1)))


class TestRegraded(unittest.TestCase, KindChecks):
    def check_invalid(self, table, value):
        before = copy.deepcopy(value)
        with self.subTest(table=table, value=value):
            with self.assertRaises(InvalidLevels) as caught:
                regraded(table, value)
            self.assertIs(caught.exception.__class__, InvalidLevels)
            self.assertIs(caught.exception.levels, value)
            self.assertEqual(value, before)

    def test_example(self):
        self.assertEqual(regraded(U, (1, 5, 9)), ((), (9,), (9, 1), (9, 5, 5)))

    def test_right_values(self):
        for table in TABLES:
            levels = levels_of(table)
            count = len(levels)
            ranks = tuple(range(1, count + 1))
            top = tuple(range(TOP - count + 1, TOP + 1))
            for value in (ranks, top, tuple(7 * rank * rank for rank in ranks)):
                wanted = tuple(tuple(value[levels.index(level)] for level in row) for row in table)
                with self.subTest(table=table, value=value):
                    self.assertEqual(regraded(table, value), wanted)
                    self.assertIs(find_fault(regraded(table, value)), None)
                    self.assert_tuples(regraded(table, value))
            self.assertEqual(regraded(table, levels), table)
            self.assertEqual(regraded(table, ranks), ranked(table))

    def test_one_two_and_twelve_items(self):
        self.assertEqual(regraded(ONE, ()), ONE)
        self.assertEqual(regraded(TWO, (1,)), ((), (1,)))
        self.assertEqual(regraded(TWO, (TOP,)), ((), (TOP,)))
        self.assertEqual(regraded(EQUAL_TWELVE, (8,)), tuple((8,) * i for i in range(12)))
        self.assertEqual(regraded(NESTED_TWELVE, levels_of(NESTED_TWELVE)), NESTED_TWELVE)
        # The new levels are among the old ones, but in other places.
        self.assertEqual(regraded(T, (3, 4, 6, 7)), ((), (6,), (7, 3), (7, 7, 4)))

    def test_too_short_and_too_long(self):
        self.check_invalid(ONE, (1,))
        self.check_invalid(TWO, ())
        self.check_invalid(TWO, (1, 2))
        self.check_invalid(U, (1, 5))
        self.check_invalid(U, (1, 5, 9, 10))
        self.check_invalid(T, (1, 5, 9))
        self.check_invalid(EQUAL_TWELVE, tuple(range(1, 67)))

    def test_not_ascending(self):
        for value in itertools.product((1, 5, 9), repeat=3):
            if value != (1, 5, 9):
                self.check_invalid(U, value)

    def test_lists(self):
        self.check_invalid(ONE, [])
        self.check_invalid(TWO, [5])
        self.check_invalid(U, [1, 5, 9])
        self.check_invalid(U, ([1], 5, 9))
        self.check_invalid(U, ((1, 5, 9),))

    def test_parts_that_are_no_levels(self):
        for place in range(3):
            for bad in (True, False, None, 0, -1, TOP + 1, 10 ** 30 - 1, "5", "", [5], (5,), {}, {"a": 5}, deep(30)):
                value = [1, 5, 9]
                value[place] = bad
                self.check_invalid(U, tuple(value))
        # In these the parts ascend, so that only the level itself is wrong.
        self.check_invalid(U, (True, 5, 9))
        self.check_invalid(U, (0, 5, 9))
        self.check_invalid(U, (-3, 5, 9))
        self.check_invalid(U, (1, 5, TOP + 1))
        self.check_invalid(TWO, (0,))
        self.check_invalid(TWO, (True,))
        self.check_invalid(TWO, (TOP + 1,))
        self.check_invalid(U, ("a", "b", "c"))

    def test_odd_values(self):
        for value in ODD_VALUES + (T, U, deep(40), deep(40, list), {"a": (1, 5, 9)}):
            self.check_invalid(U, value)
            if value != ():
                self.check_invalid(ONE, value)
            self.check_invalid(TWO, value)
            if value is True or value not in (1, 5):
                self.check_invalid(TWO, (value,))


if __name__ == "__main__":
    unittest.main()
