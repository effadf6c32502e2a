"""Points [9] to [15], and points [2] (b) and [3] for them."""

import copy
import itertools
import unittest

from mergelevels.below import (
    best_division, best_path, check_join, detour_level, join_level, nested_below, select_pairs,
)
from mergelevels.errors import UnknownLimit
from mergelevels.tables import find_fault
from tests.samples import (
    EQUAL_TWELVE, NESTED_TWELVE, ODD_VALUES, ONE, T, TOP, TWELVE, TWO, U,
    ItemChecks, all_divisions, all_paths, all_tables, deep, is_lower, pairs, plain_height, plain_join,
    plain_level, plain_nested, plain_width, random_tables, small_tables,
)

LARGE_TABLES = [TWELVE, EQUAL_TWELVE, NESTED_TWELVE] + random_tables(7, 6, (11, 12), 30)


def ordered_pairs(table):
    """All (one, other) with different items, in both directions."""
    return list(itertools.permutations(range(len(table)), 2))


class TestJoinLevel(unittest.TestCase, ItemChecks):
    def test_example(self):
        self.assertEqual((join_level(T, 0, 3), join_level(T, 1, 3)), (4, 3))

    def test_search_over_all_paths(self):
        for table in small_tables():
            for one, other in itertools.product(range(len(table)), repeat=2):
                with self.subTest(table=table, one=one, other=other):
                    self.assertEqual(join_level(table, one, other), plain_join(table, one, other))

    def test_twelve_items(self):
        self.assertEqual(join_level(TWELVE, 0, 10), 1)
        self.assertEqual(join_level(TWELVE, 11, 1), 1)
        self.assertEqual(join_level(TWELVE, 10, 1), 7)
        self.assertEqual(join_level(TWELVE, 5, 5), 0)
        self.assertEqual(join_level(EQUAL_TWELVE, 3, 8), 3)
        self.assertEqual(join_level(NESTED_TWELVE, 3, 8), 80)

    def test_levels_at_the_edges(self):
        self.assertEqual(join_level(((), (TOP,)), 0, 1), TOP)
        self.assertEqual(join_level(((), (1,)), 1, 0), 1)
        self.assertEqual(join_level(((), (TOP,), (TOP, 1)), 0, 2), TOP)

    def test_no_items(self):
        self.check_no_items(join_level)


class TestNestedBelow(unittest.TestCase):
    def test_example(self):
        self.assertEqual(nested_below(T), ((), (4,), (4, 2), (4, 3, 3)))

    def test_search_over_all_paths(self):
        for table in small_tables():
            wanted = tuple(
                tuple(plain_join(table, one, other) for other in range(one)) for one in range(len(table))
            )
            with self.subTest(table=table):
                self.assertEqual(nested_below(table), wanted)

    def test_it_is_a_nested_table_below(self):
        for table in small_tables() + LARGE_TABLES:
            below = nested_below(table)
            self.assertIs(find_fault(below), None)
            self.assertTrue(plain_nested(below))
            self.assertTrue(is_lower(below, table))
            self.assertEqual(nested_below(below), below)
            self.assertEqual(nested_below(table), below)

    def test_nested_tables_stay(self):
        for table in (ONE, TWO, U, EQUAL_TWELVE, NESTED_TWELVE):
            self.assertEqual(nested_below(table), table)

    def test_no_nested_table_below_is_greater_anywhere(self):
        for count, top in ((3, 4), (4, 3)):
            tables = all_tables(count, top)
            nested = [table for table in tables if plain_nested(table)]
            for table in tables:
                below = nested_below(table)
                for lower in nested:
                    if is_lower(lower, table):
                        self.assertTrue(is_lower(lower, below), (table, lower))


class TestBestPath(unittest.TestCase, ItemChecks):
    def test_example(self):
        self.assertEqual((best_path(T, 0, 3), best_path(T, 2, 2)), ((0, 1, 2, 3), (2,)))

    def test_search_over_all_paths(self):
        for table in small_tables():
            for one, other in itertools.product(range(len(table)), repeat=2):
                paths = all_paths(table, one, other)
                wanted = min(paths, key=lambda path: (plain_height(table, path), len(path), path))
                with self.subTest(table=table, one=one, other=other):
                    self.assertEqual(best_path(table, one, other), wanted)
                    self.assertIs(best_path(table, one, other).__class__, tuple)

    def test_fewest_items_before_the_order_of_tuples(self):
        # From 0 to 4 lead 0-1-2-4 and 0-3-4: the shorter one is not the smaller one.
        table = ((), (1,), (9, 1), (1, 9, 9), (9, 9, 1, 1))
        self.assertEqual(best_path(table, 0, 4), (0, 3, 4))
        self.assertEqual(best_path(table, 4, 0), (4, 3, 0))

    def test_smallest_of_the_shortest(self):
        # From 0 to 5 lead 0-1-4-5, 0-2-3-5 and 0-1-3-5.
        table = ((), (1,), (1, 9), (9, 1, 1), (9, 1, 9, 9), (9, 9, 9, 1, 1))
        self.assertEqual(best_path(table, 0, 5), (0, 1, 3, 5))
        self.assertEqual(best_path(table, 5, 0), (5, 3, 1, 0))

    def test_direct_step_is_not_lower(self):
        self.assertEqual(best_path(((), (2,), (2, 2)), 0, 2), (0, 2))
        self.assertEqual(best_path(((), (1,), (2, 1)), 2, 0), (2, 1, 0))

    def test_twelve_items(self):
        self.assertEqual(best_path(TWELVE, 10, 1), (10, 8, 6, 4, 2, 0, 11, 9, 7, 5, 3, 1))
        self.assertEqual(best_path(EQUAL_TWELVE, 11, 4), (11, 4))
        self.assertEqual(best_path(NESTED_TWELVE, 11, 11), (11,))
        for table in LARGE_TABLES:
            for one, other in ordered_pairs(table):
                path = best_path(table, one, other)
                self.assertEqual((path[0], path[-1], len(set(path))), (one, other, len(path)))
                self.assertEqual(plain_height(table, path), join_level(table, one, other))

    def test_no_items(self):
        self.check_no_items(best_path)


class TestBestDivision(unittest.TestCase, ItemChecks):
    def test_example(self):
        self.assertEqual((best_division(T, 0, 3), best_division(T, 3, 0)), ((0,), (1, 2, 3)))

    def test_search_over_all_paths(self):
        for table in small_tables():
            for one, other in ordered_pairs(table):
                join = plain_join(table, one, other)
                wanted = tuple(
                    item for item in range(len(table)) if plain_join(table, one, item) < join
                )
                with self.subTest(table=table, one=one, other=other):
                    self.assertEqual(best_division(table, one, other), wanted)
                    self.assertIs(best_division(table, one, other).__class__, tuple)

    def test_the_width_is_the_joining_level(self):
        for table in small_tables() + LARGE_TABLES:
            for one, other in ordered_pairs(table):
                division = best_division(table, one, other)
                self.assertIn(one, division)
                self.assertNotIn(other, division)
                self.assertEqual(plain_width(table, division), join_level(table, one, other))

    def test_no_division_is_wider(self):
        for table in small_tables():
            for one, other in pairs(table):
                widths = [
                    plain_width(table, division) for division in all_divisions(table)
                    if one in division and other not in division
                ]
                self.assertEqual(max(widths), join_level(table, one, other))

    def test_two_and_twelve_items(self):
        self.assertEqual(best_division(TWO, 1, 0), (1,))
        self.assertEqual(best_division(TWELVE, 4, 3), (0, 2, 4, 6, 8, 10))
        self.assertEqual(best_division(TWELVE, 3, 4), (1, 3, 5, 7, 9, 11))
        self.assertEqual(best_division(TWELVE, 4, 6), (4,))
        self.assertEqual(best_division(EQUAL_TWELVE, 7, 0), (7,))
        self.assertEqual(best_division(NESTED_TWELVE, 2, 11), tuple(range(11)))

    def test_no_items(self):
        self.check_no_items(best_division)
        self.check_same_item(best_division)


class TestCheckJoin(unittest.TestCase, ItemChecks):
    def check(self, wanted, table, one, other, value):
        before = copy.deepcopy(value)
        with self.subTest(table=table, one=one, other=other, value=value):
            self.assertIs(check_join(table, one, other, value), wanted)
            self.assertIs(check_join(table, one, other, value), wanted)
            self.assertEqual(value, before)

    def test_example(self):
        self.check(True, T, 0, 3, ((0, 1, 2, 3), (0,)))

    def test_best_path_and_division(self):
        for table in small_tables() + LARGE_TABLES:
            for one, other in ordered_pairs(table):
                value = (best_path(table, one, other), best_division(table, one, other))
                self.assertIs(check_join(table, one, other, value), True)

    def test_all_paths_and_divisions(self):
        for table in all_tables(2, 2) + all_tables(3, 3) + random_tables(8, 12, (4,), 4) + [T, U]:
            for one, other in ordered_pairs(table):
                join = plain_join(table, one, other)
                for path in all_paths(table, one, other):
                    for division in all_divisions(table):
                        apart = one in division and other not in division
                        equal = plain_height(table, path) == plain_width(table, division)
                        accepted = check_join(table, one, other, (path, division))
                        self.assertIs(accepted, apart and equal)
                        if accepted:
                            self.assertEqual(plain_height(table, path), join)

    def test_odd_values(self):
        for value in ODD_VALUES + (T, U, deep(40), deep(40, list), {"a": ((0, 1), (0,))}):
            self.check(False, T, 0, 3, value)
            self.check(False, T, 0, 3, (value, (0,)))
            self.check(False, T, 0, 3, (value, value))
            self.check(False, T, 0, 3, (value, (0,), value))
            if value != (0,):
                self.check(False, T, 0, 3, ((0, 1, 2, 3), value))

    def test_lists_in_the_place_of_tuples(self):
        self.check(False, T, 0, 3, [(0, 1, 2, 3), (0,)])
        self.check(False, T, 0, 3, ([0, 1, 2, 3], (0,)))
        self.check(False, T, 0, 3, ((0, 1, 2, 3), [0]))

    def test_number_of_parts(self):
        self.check(False, T, 0, 3, ())
        self.check(False, T, 0, 3, ((0, 1, 2, 3),))
        self.check(False, T, 0, 3, ((0, 1, 2, 3), (0,), ()))
        self.check(False, T, 0, 3, ((0,), (0, 1, 2, 3)))

    def test_parts_that_are_no_items(self):
        for bad in (True, False, None, -1, 4, "1", [1], (1,), {}, 10 ** 30 - 1):
            self.check(False, T, 0, 3, ((0, bad, 2, 3), (0,)))
            self.check(False, T, 0, 3, ((bad, 1, 2, 3), (0,)))
            self.check(False, T, 0, 3, ((0, 1, 2, bad), (0,)))
            self.check(False, T, 0, 3, ((0, 1, 2, 3), (bad,)))
            self.check(False, T, 0, 3, ((0, 1, 2, 3), (0, bad)))
            self.check(False, T, 0, 3, ((0, 1, 2, 3), (bad, 0)))
        # -1 is the last item for Python: it must not stand for item 3 here.
        self.check(False, T, 0, 3, ((0, 1, 2, -1, 3), (0,)))
        self.check(False, T, 1, 0, ((True, 0), (1, 2, 3)))
        self.check(False, T, 1, 0, ((1, False), (1, 2, 3)))
        self.check(False, T, 1, 0, ((1, 0), (True, 2, 3)))

    def test_paths(self):
        self.check(False, T, 0, 3, ((), (0,)))
        self.check(False, T, 0, 3, ((0,), (0,)))
        self.check(False, T, 0, 3, ((3,), (0,)))
        self.check(False, T, 0, 3, ((3, 2, 1, 0), (0,)))
        self.check(False, T, 0, 3, ((1, 2, 3), (0,)))
        self.check(False, T, 0, 3, ((0, 1, 2), (0,)))
        self.check(False, T, 0, 3, ((0, 1, 2, 1, 2, 3), (0,)))
        self.check(False, T, 0, 3, ((0, 0, 1, 2, 3), (0,)))
        self.check(False, T, 0, 3, ((0, 1, 2, 3, 3), (0,)))
        self.check(False, T, 0, 3, ((0, 3), (0,)))
        self.check(True, T, 3, 0, ((3, 2, 1, 0), (1, 2, 3)))

    def test_ends_of_paths(self):
        # Height and width are equal here, but the path leads from or to another item.
        self.check(False, T, 1, 3, ((2, 3), (1, 2)))
        self.check(False, T, 3, 1, ((3, 2), (3,)))
        self.check(False, T, 1, 3, ((3, 2, 1), (1, 2)))
        self.check(True, T, 2, 3, ((2, 3), (1, 2)))
        self.check(True, T, 3, 2, ((3, 2), (3,)))

    def test_divisions(self):
        path = (1, 2, 3)
        self.check(True, T, 1, 3, (path, (0, 1, 2)))
        self.check(True, T, 1, 3, (path, (1, 2)))
        self.check(False, T, 1, 3, (path, ()))
        self.check(False, T, 1, 3, (path, (2, 1)))
        self.check(False, T, 1, 3, (path, (1, 1, 2)))
        self.check(False, T, 1, 3, (path, (1, 2, 2)))
        self.check(False, T, 1, 3, (path, (1,)))
        self.check(False, T, 1, 3, (path, (0, 2)))
        self.check(False, T, 1, 3, (path, (3,)))
        self.check(False, T, 1, 3, (path, (1, 2, 3)))
        self.check(False, T, 1, 3, (path, (0, 1, 2, 3)))
        self.check(False, TWO, 0, 1, ((0, 1), (0, 1)))
        self.check(True, TWO, 0, 1, ((0, 1), (0,)))
        self.check(True, ((), (5,), (5, 5)), 0, 1, ((0, 1), (0, 2)))

    def test_height_and_width_differ(self):
        self.check(False, T, 0, 3, ((0, 1, 3), (0,)))
        self.check(False, T, 0, 3, ((0, 1, 2, 3), (0, 1)))
        self.check(False, T, 0, 3, ((0, 1, 2, 3), (0, 1, 2)))

    def test_no_items(self):
        self.check_no_items(check_join, ((0, 1), (0,)))
        self.check_no_items(check_join, None)
        self.check_same_item(check_join, ((0,), (0,)))
        self.check_same_item(check_join, [])


class TestDetourLevel(unittest.TestCase, ItemChecks):
    def test_example(self):
        self.assertEqual(detour_level(T, 0, 1), 6)

    def test_two_items(self):
        for table in all_tables(2, 3) + [((), (TOP,))]:
            self.assertIs(detour_level(table, 0, 1), None)
            self.assertIs(detour_level(table, 1, 0), None)

    def test_search_over_all_paths(self):
        for table in small_tables():
            if len(table) >= 3:
                for one, other in ordered_pairs(table):
                    wanted = min(
                        plain_height(table, path) for path in all_paths(table, one, other) if len(path) >= 3
                    )
                    with self.subTest(table=table, one=one, other=other):
                        self.assertEqual(detour_level(table, one, other), wanted)

    def test_levels_at_the_edges(self):
        self.assertEqual(detour_level(((), (1,), (TOP, TOP)), 0, 1), TOP)
        self.assertEqual(detour_level(((), (TOP,), (1, 1)), 0, 1), 1)
        self.assertEqual(detour_level(((), (TOP,), (TOP, TOP)), 2, 1), TOP)

    def test_twelve_items(self):
        self.assertEqual(detour_level(TWELVE, 0, 2), TOP)
        self.assertEqual(detour_level(TWELVE, 0, 10), 1)
        self.assertEqual(detour_level(TWELVE, 9, 4), 7)
        self.assertEqual(detour_level(EQUAL_TWELVE, 0, 11), 3)
        self.assertEqual(detour_level(NESTED_TWELVE, 0, 1), 20)

    def test_no_items(self):
        self.check_no_items(detour_level)
        self.check_same_item(detour_level)


class TestSelectPairs(unittest.TestCase):
    def test_example(self):
        self.assertEqual(select_pairs(T, join=3, gap=0), ((1, 2), (2, 3)))

    def test_no_limits(self):
        for table in (ONE, TWO, T, U, TWELVE):
            self.assertEqual(select_pairs(table), tuple(pairs(table)))
        self.assertEqual(select_pairs(T), ((0, 1), (0, 2), (0, 3), (1, 2), (1, 3), (2, 3)))
        self.assertIs(select_pairs(T).__class__, tuple)

    def test_each_limit_alone(self):
        self.assertEqual(select_pairs(T, level=4), ((0, 1), (1, 2), (2, 3)))
        self.assertEqual(select_pairs(T, level=3), ((1, 2), (2, 3)))
        self.assertEqual(select_pairs(T, join=3), ((1, 2), (1, 3), (2, 3)))
        self.assertEqual(select_pairs(T, join=2), ((1, 2),))
        self.assertEqual(select_pairs(T, gap=2), ((0, 1), (0, 2), (0, 3), (1, 2), (2, 3)))
        self.assertEqual(select_pairs(T, gap=0), ((0, 1), (1, 2), (2, 3)))

    def test_limits_of_0(self):
        self.assertEqual(select_pairs(T, level=0), ())
        self.assertEqual(select_pairs(T, join=0), ())
        self.assertEqual(select_pairs(U, gap=0), tuple(pairs(U)))
        self.assertEqual(select_pairs(U, gap=0, level=0), ())

    def test_limits_of_30_digits(self):
        large = 10 ** 30 - 1
        for name in ("level", "join", "gap"):
            self.assertEqual(select_pairs(TWELVE, **{name: large}), tuple(pairs(TWELVE)))
        self.assertEqual(select_pairs(T, level=large, join=2, gap=large), ((1, 2),))

    def test_one_item(self):
        for limits in ({}, {"level": 5}, {"join": 0, "gap": 0, "level": 0}):
            self.assertEqual(select_pairs(ONE, **limits), ())

    def test_all_sets_of_limits(self):
        for table in small_tables()[::7] + [T, U]:
            levels = sorted({level for row in table for level in row})
            choices = [None, 0, 1, 2, 3] + levels[-1:]
            for level, join, gap in itertools.product(choices, repeat=3):
                given = {"level": level, "join": join, "gap": gap}
                limits = {name: value for name, value in given.items() if value is not None}
                wanted = []
                for one, other in pairs(table):
                    high, low = plain_level(table, one, other), plain_join(table, one, other)
                    numbers = {"level": high, "join": low, "gap": high - low}
                    if all(numbers[name] <= limit for name, limit in limits.items()):
                        wanted.append((one, other))
                with self.subTest(table=table, limits=limits):
                    self.assertEqual(select_pairs(table, **limits), tuple(wanted))

    def check_unknown(self, name, **limits):
        before = dict(limits)
        with self.subTest(limits=limits):
            with self.assertRaises(UnknownLimit) as caught:
                select_pairs(T, **limits)
            self.assertEqual(caught.exception.name, name)
            self.assertEqual(limits, before)

    def test_unknown_limits(self):
        self.check_unknown("height", height=3)
        self.check_unknown("a", b=1, a=2, level=3)
        self.check_unknown("Level", level=1, Level=2, levels=3)
        self.check_unknown("width", zebra=0, width=0, join=1, gap=1)
        self.check_unknown("", **{"": 1, "a": 2})
        self.check_unknown("10", **{"9": 1, "10": 2})
        self.check_unknown("limits", limits=1, one=1, other=2)
        self.check_unknown("joi", join=1, joi=2)
        with self.assertRaises(UnknownLimit):
            select_pairs(ONE, most=1)


if __name__ == "__main__":
    unittest.main()
