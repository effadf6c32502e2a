"""Points [27] to [31], and point [3] for them."""

import copy
import itertools
import unittest

from mergelevels.deviations import (
    check_deviation, deviation_between, deviation_certificate, greatest_gap, least_deviation, nearest_table,
    nested_within,
)
from mergelevels.errors import UnequalSizes
from mergelevels.tables import find_fault
from tests.samples import (
    EQUAL_TWELVE, NESTED_TWELVE, ODD_VALUES, ONE, T, TOP, TWELVE, TWO, U,
    KindChecks, all_paths, all_tables, deep, drawn_nested, is_lower, large_tables, pairs, plain_deviation,
    plain_height, plain_join, plain_level, plain_nested, random_tables, small_tables, table_from,
)

NESTED = drawn_nested(51, 12, (3, 4, 5), 5) + drawn_nested(52, 3, (6, 12), TOP)
TABLES = small_tables() + NESTED + large_tables() + [T, U]
LARGE = 10 ** 30 - 1


def plain_gap(table):
    """The greatest gap, by a search over all paths."""
    return max([0] + [plain_level(table, *pair) - plain_join(table, *pair) for pair in pairs(table)])


def nested_tables(count, low, high):
    """All nested tables with levels from low to high."""
    size = count * (count - 1) // 2
    tables = [table_from(count, levels) for levels in itertools.product(range(low, high + 1), repeat=size)]
    return [table for table in tables if plain_nested(table)]


def drop_of(table, path):
    """The level between the ends of a path, minus its height."""
    return plain_level(table, path[0], path[-1]) - plain_height(table, path)


def every_path(table):
    """All paths of the table."""
    ends = itertools.product(range(len(table)), repeat=2)
    return [path for one, other in ends for path in all_paths(table, one, other)]


class TestDeviationBetween(unittest.TestCase):
    def check_unequal(self, table, value):
        before = copy.deepcopy(value)
        with self.subTest(table=table, value=value):
            with self.assertRaises(UnequalSizes) as caught:
                deviation_between(table, value)
            self.assertIs(caught.exception.__class__, UnequalSizes)
            self.assertEqual(caught.exception.index, 1)
            self.assertEqual(value, before)

    def test_example(self):
        self.assertEqual(deviation_between(T, U), 3)

    def test_all_small_tables(self):
        for one, other in itertools.product(all_tables(3, 3), repeat=2):
            self.assertEqual(deviation_between(one, other), plain_deviation(one, other))

    def test_one_two_and_twelve_items(self):
        self.assertEqual(deviation_between(ONE, ONE), 0)
        self.assertEqual(deviation_between(TWO, TWO), 0)
        self.assertEqual(deviation_between(TWO, ((), (9,))), 4)
        self.assertEqual(deviation_between(((), (9,)), TWO), 4)
        self.assertEqual(deviation_between(((), (1,)), ((), (TOP,))), TOP - 1)
        self.assertEqual(deviation_between(TWELVE, EQUAL_TWELVE), TOP - 3)
        for one, other in itertools.product([table for table in large_tables() if len(table) == 12], repeat=2):
            self.assertEqual(deviation_between(one, other), plain_deviation(one, other))

    def test_greatest_difference_at_each_place(self):
        for place in range(6):
            for other in (1, 9):
                levels = [5, 4, 6, 5, 5, 5]
                levels[place] = other
                self.assertEqual(deviation_between(((), (5,), (5, 5), (5, 5, 5)), table_from(4, levels)), 4)

    def test_other_sizes(self):
        tables = (ONE, TWO, ((), (1,), (2, 2)), T, EQUAL_TWELVE[:11], EQUAL_TWELVE)
        for one, other in itertools.permutations(tables, 2):
            self.check_unequal(one, other)

    def test_values_that_are_no_tables(self):
        for value in ODD_VALUES + (deep(40), deep(40, list), ((),) * 13):
            for table in (ONE, TWO, T, EQUAL_TWELVE):
                self.check_unequal(table, value)
        self.check_unequal(ONE, [()])
        self.check_unequal(ONE, ([],))
        self.check_unequal(TWO, ((), [5]))
        for bad in (True, False, None, 0, -1, TOP + 1, "5", [5], (5,), {}):
            self.check_unequal(TWO, ((), (bad,)))
            self.check_unequal(T, ((), (4,), (6, 2), (6, bad, 3)))
        self.check_unequal(T, ((), (4,), (6, 2), [6, 6, 3]))
        self.check_unequal(T, list(T))
        self.check_unequal(T, ((), (4,), (6, 2), (6, 6)))


class TestGapAndDeviation(unittest.TestCase):
    def test_example(self):
        self.assertEqual((greatest_gap(T), least_deviation(T)), (3, 2))

    def test_search_over_all_paths(self):
        for table in small_tables() + NESTED[:12]:
            gap = plain_gap(table)
            with self.subTest(table=table):
                self.assertEqual(greatest_gap(table), gap)
                self.assertEqual(least_deviation(table), gap // 2 + gap - gap // 2 * 2)

    def test_search_over_all_nested_tables(self):
        for count, top in ((2, 4), (3, 5), (4, 3)):
            nested = nested_tables(count, 1, top + 1)
            for table in all_tables(count, top):
                wanted = min(plain_deviation(table, near) for near in nested)
                self.assertEqual(least_deviation(table), wanted, table)

    def test_one_two_and_twelve_items(self):
        for table in (ONE, TWO, ((), (TOP,)), EQUAL_TWELVE, NESTED_TWELVE):
            self.assertEqual((greatest_gap(table), least_deviation(table)), (0, 0))
        self.assertEqual((greatest_gap(TWELVE), least_deviation(TWELVE)), (TOP - 1, TOP // 2))
        self.assertEqual(greatest_gap(((), (TOP,), (2, 2))), TOP - 2)
        self.assertEqual(least_deviation(((), (TOP,), (2, 2))), TOP // 2 - 1)
        for gap in range(6):
            table = ((), (3 + gap,), (3, 3))
            self.assertEqual((greatest_gap(table), least_deviation(table)), (gap, (0, 1, 1, 2, 2, 3)[gap]))

    def test_nested_tables(self):
        for table in NESTED:
            self.assertEqual((greatest_gap(table), least_deviation(table)), (0, 0))

    def test_kinds(self):
        for table in (ONE, T, TWELVE):
            self.assertIs(greatest_gap(table).__class__, int)
            self.assertIs(least_deviation(table).__class__, int)


class TestNearestTable(unittest.TestCase, KindChecks):
    def test_example(self):
        self.assertEqual(nearest_table(T), ((), (6,), (6, 4), (6, 5, 5)))

    def test_search_over_all_paths(self):
        for table in small_tables() + NESTED[:12]:
            rise = (plain_gap(table) + 1) // 2
            top = max([level for row in table for level in row], default=0)
            wanted = tuple(
                tuple(min(top, plain_join(table, one, other) + rise) for other in range(one))
                for one in range(len(table))
            )
            with self.subTest(table=table):
                self.assertEqual(nearest_table(table), wanted)

    def test_a_nested_table_with_the_least_deviation(self):
        for table in TABLES:
            near = nearest_table(table)
            self.assertIs(find_fault(near), None)
            self.assert_tuples(near)
            self.assertTrue(plain_nested(near))
            self.assertEqual(plain_deviation(table, near), least_deviation(table))
            self.assertEqual(nearest_table(table), near)

    def test_nested_tables_stay(self):
        for table in [ONE, TWO, ((), (TOP,)), U, EQUAL_TWELVE, NESTED_TWELVE] + NESTED:
            self.assertEqual(nearest_table(table), table)

    def test_at_most_the_greatest_level(self):
        self.assertEqual(nearest_table(((), (9,), (1, 1))), ((), (5,), (5, 5)))
        # Item 3 joins at 10; the gap of 8 must not lift it above 10.
        self.assertEqual(nearest_table(((), (9,), (1, 1), (10, 10, 10))), ((), (5,), (5, 5), (10, 10, 10)))
        high = ((), (TOP,), (1, 1), (TOP, TOP, TOP))
        half = TOP // 2 + 1
        self.assertEqual(nearest_table(high), ((), (half,), (half, half), (TOP, TOP, TOP)))


class TestNestedWithin(unittest.TestCase, KindChecks):
    def test_example(self):
        self.assertIs(nested_within(T, 1), None)
        self.assertEqual(nested_within(T, 3), ((), (7,), (7, 5), (7, 6, 6)))

    def check_search(self, table, most, nested):
        near = [other for other in nested if plain_deviation(table, other) <= most]
        found = nested_within(table, most)
        with self.subTest(table=table, most=most):
            if found is None:
                self.assertEqual(near, [])
            else:
                self.assertIn(found, near)
                self.assertTrue(all(is_lower(other, found) for other in near))

    def test_search_over_all_nested_tables(self):
        for count, top in ((1, 1), (2, 3), (3, 4)):
            for most in range(4):
                nested = nested_tables(count, 1, top + most)
                for table in all_tables(count, top):
                    self.check_search(table, most, nested)
        for most in range(3):
            nested = nested_tables(4, 1, 3 + most)
            for table in all_tables(4, 3)[::11]:
                self.check_search(table, most, nested)

    def test_levels_at_the_upper_edge(self):
        nested = nested_tables(3, TOP - 6, TOP)
        for levels in itertools.product(range(TOP - 3, TOP + 1), repeat=3):
            for most in range(4):
                self.check_search(table_from(3, levels), most, nested)

    def test_0(self):
        for table in TABLES:
            self.assertEqual(nested_within(table, 0), table if plain_nested(table) else None)

    def test_around_the_least_deviation(self):
        for table in TABLES:
            least = least_deviation(table)
            if least > 0:
                self.assertIs(nested_within(table, least - 1), None)
            for most in (least, least + 1, 2 * least + 1):
                found = nested_within(table, most)
                self.assertIs(find_fault(found), None)
                self.assert_tuples(found)
                self.assertTrue(plain_nested(found))
                self.assertLessEqual(plain_deviation(table, found), most)
                self.assertTrue(is_lower(nearest_table(table), found))

    def test_numbers_of_30_digits(self):
        for table in TABLES:
            for most in (TOP, 10 ** 29, LARGE, LARGE + 1):
                self.assertEqual(nested_within(table, most), tuple((TOP,) * i for i in range(len(table))))

    def test_one_and_two_items(self):
        for most in (0, 1, TOP, LARGE):
            self.assertEqual(nested_within(ONE, most), ONE)
        self.assertEqual(nested_within(TWO, 0), TWO)
        self.assertEqual(nested_within(TWO, 7), ((), (12,)))
        self.assertEqual(nested_within(TWO, TOP - 6), ((), (TOP - 1,)))
        self.assertEqual(nested_within(TWO, TOP - 4), ((), (TOP,)))

    def test_twelve_items(self):
        self.assertIs(nested_within(TWELVE, TOP // 2 - 1), None)
        half = TOP // 2
        wanted = tuple(tuple(half + (1 if (i - j) in (2, 4, 6, 8, 10) else 7) for j in range(i)) for i in range(12))
        self.assertEqual(nested_within(TWELVE, half), wanted)
        self.assertEqual(nested_within(EQUAL_TWELVE, 2), tuple((5,) * i for i in range(12)))


class TestCertificates(unittest.TestCase, KindChecks):
    def check(self, wanted, table, value):
        before = copy.deepcopy(value)
        with self.subTest(table=table, value=value):
            self.assertIs(check_deviation(table, value), wanted)
            self.assertIs(check_deviation(table, value), wanted)
            self.assertEqual(value, before)

    def test_example(self):
        self.check(True, T, (((), (6,), (6, 4), (6, 5, 5)), (1, 2, 3)))
        self.check(False, T, (U, (1, 2, 3)))

    def test_certificate_of_every_table(self):
        for table in TABLES + all_tables(4, 2) + random_tables(53, 40, (7, 9, 12), 50):
            value = deviation_certificate(table)
            self.assert_tuples(value)
            self.check(True, table, value)
            near, path = value
            self.assertIs(find_fault(near), None)
            self.assertEqual(len(near), len(table))
            self.assertTrue(plain_nested(near))
            self.assertEqual(len(set(path)), len(path))
            self.assertTrue(set(path) <= set(range(len(table))))
            self.assertEqual(plain_deviation(table, near), least_deviation(table))
            self.assertGreaterEqual(drop_of(table, path), 2 * plain_deviation(table, near) - 1)
            self.assertEqual(deviation_certificate(table), value)

    def test_one_item(self):
        self.assertEqual(deviation_certificate(ONE), (ONE, (0,)))
        self.check(True, ONE, (ONE, (0,)))
        for path in ((), (1,), (0, 0), (False,), [0], 0, None, ((0,),), (-1,)):
            self.check(False, ONE, (ONE, path))
        for near in (TWO, (), ((1,),), [()], ([],), None, 0, (0,)):
            self.check(False, ONE, (near, (0,)))

    def test_two_items(self):
        for path in ((0, 1), (1, 0), (0,), (1,)):
            self.check(True, TWO, (TWO, path))
            self.check(False, TWO, (((), (6,)), path))
            self.check(False, TWO, (((), (4,)), path))

    def test_all_nested_tables_and_paths(self):
        for table in all_tables(3, 3) + [((), (7,), (2, 1)), ((), (1,), (6, 2)), ((), (8,), (1, 2))]:
            for near in all_tables(3, 5):
                nested, deviation = plain_nested(near), plain_deviation(table, near)
                for path in every_path(table):
                    wanted = nested and drop_of(table, path) >= 2 * deviation - 1
                    self.assertIs(check_deviation(table, (near, path)), wanted, (table, near, path))

    def test_changed_at_one_place_or_two(self):
        for table in [T, U] + random_tables(54, 12, (3, 4, 5), 8) + drawn_nested(55, 4, (4, 5), 4):
            near, path = deviation_certificate(table)
            places = [(i, j) for i in range(len(table)) for j in range(i)]
            changes = [[spot] for spot in places] + list(itertools.combinations(places, 2))
            for spots in changes:
                for step in (-1, 1, -2, 2):
                    rows = [list(row) for row in near]
                    for i, j in spots:
                        rows[i][j] += step
                    other = tuple(tuple(row) for row in rows)
                    fits = find_fault(other) is None and plain_nested(other)
                    wanted = fits and drop_of(table, path) >= 2 * plain_deviation(table, other) - 1
                    self.check(wanted, table, (other, path))

    def test_changed_paths(self):
        for table in [T, U] + random_tables(56, 12, (3, 4, 5), 8):
            near, path = deviation_certificate(table)
            deviation = plain_deviation(table, near)
            for place in range(len(path)):
                for item in range(-1, len(table) + 1):
                    changed = path[:place] + (item,) + path[place + 1:]
                    fits = len(set(changed)) == len(changed) and 0 <= item < len(table)
                    wanted = fits and drop_of(table, changed) >= 2 * deviation - 1
                    self.check(wanted, table, (near, changed))
            self.check(True, table, (near, path[::-1]))

    def test_exactly_as_much_as_needed(self):
        # With the same path, a table that is further away by one is not shown to be nearest.
        for gap, deviation in ((3, 2), (4, 2), (1, 1), (2, 1), (0, 0), (5, 3)):
            table = ((), (2 + gap,), (2, 2))
            near = ((), (2 + deviation,), (2 + deviation, 2 + deviation))
            further = ((), (3 + deviation,), (3 + deviation, 3 + deviation))
            self.check(True, table, (near, (0, 2, 1)))
            self.check(False, table, (further, (0, 2, 1)))
            self.check(gap == 0, table, (near, (0, 1)))

    def test_not_nested(self):
        # T itself has the deviation 0, but is not nested.
        self.check(False, T, (T, (1, 2, 3)))
        self.check(False, T, (((), (6,), (6, 4), (6, 5, 4)), (1, 2, 3)))
        self.check(False, ((), (3,), (2, 2)), (((), (3,), (2, 2)), (0, 2, 1)))

    def test_odd_values(self):
        near, path = ((), (6,), (6, 4), (6, 5, 5)), (1, 2, 3)
        self.check(True, T, (near, path))
        for value in ODD_VALUES + (T, deep(40), deep(40, list), {"a": (near, path)}):
            self.check(False, T, value)
            self.check(False, T, (value, path))
            self.check(False, T, (near, value))
            self.check(False, T, (value, value))
            self.check(False, T, (near, path, value))
            self.check(False, T, (((), (6,), (6, 4), value), path))
            if value != 5:
                self.check(False, T, (((), (6,), (6, 4), (6, value, 5)), path))
            self.check(False, T, (near, (1, value, 3)))
            self.check(False, ONE, value)

    def test_lists_in_the_place_of_tuples(self):
        near, path = ((), (6,), (6, 4), (6, 5, 5)), (1, 2, 3)
        self.check(False, T, [near, path])
        self.check(False, T, (list(near), path))
        self.check(False, T, (near[:3] + ([6, 5, 5],), path))
        self.check(False, T, (near, list(path)))

    def test_number_of_parts_and_items(self):
        near, path = ((), (6,), (6, 4), (6, 5, 5)), (1, 2, 3)
        self.check(False, T, ())
        self.check(False, T, (near,))
        self.check(False, T, (path, near))
        self.check(False, T, (near, path, path))
        self.check(False, T, (near[:3], path))
        self.check(False, T, (near + ((6, 6, 6, 6),), path))
        self.check(False, ((), (1,)), (((), (1,), (1, 1)), (0, 1)))
        self.check(False, ((), (1,), (1, 1)), (((), (1,)), (0, 1)))

    def test_paths_that_are_none(self):
        near = ((), (6,), (6, 4), (6, 5, 5))
        for path in (
            (), (1,), (1, 3), (1, 2, 2, 3), (1, 2, 1, 2, 3), (1, 2, 3, 3), (1, 2, -1), (True, 2, 3), (1, 2, 4),
            ("1", "2", "3"), "123", (1, (2,), 3), (1, [2], 3), ((1, 2, 3),), (None,),
        ):
            self.check(False, T, (near, path))
        # For Python, True is 1 and False is 0; here they are no items.
        self.check(True, TWO, (TWO, (0, 1)))
        self.check(False, TWO, (TWO, (False, 1)))
        self.check(False, TWO, (TWO, (0, True)))


if __name__ == "__main__":
    unittest.main()
