"""Points [4] to [8], and point [3] for them."""

import copy
import itertools
import unittest

from mergelevels.tables import find_fault, is_nested, level_of, levels_of, uneven_items
from tests.samples import (
    EQUAL_TWELVE, NESTED_TWELVE, ODD_VALUES, ONE, T, TOP, TWELVE, TWO, U,
    ItemChecks, all_tables, deep, plain_level, plain_nested, random_tables, small_tables,
)

ROW = "row"
LEVEL = "level"
WHOLE = ((), "table")


class TestFindFault(unittest.TestCase):
    def check(self, value, wanted):
        before = copy.deepcopy(value)
        with self.subTest(value=value):
            found = find_fault(value)
            self.assertEqual(found, wanted)
            if wanted is not None:
                self.assertIs(found.__class__, tuple)
                self.assertIs(found[0].__class__, tuple)
            self.assertEqual(find_fault(value), wanted)
            self.assertEqual(value, before)

    def test_example(self):
        self.check(((), (0,)), ((1, 0), LEVEL))

    def test_tables(self):
        for table in [ONE, TWO, T, U, TWELVE, EQUAL_TWELVE, NESTED_TWELVE] + small_tables():
            self.check(table, None)

    def test_levels_at_the_edges(self):
        for level in (1, 2, TOP - 1, TOP):
            self.check(((), (level,)), None)
        for level in (0, -1, TOP + 1, 10 ** 30 - 1, -TOP):
            self.check(((), (level,)), ((1, 0), LEVEL))

    def test_no_tuple_of_rows(self):
        odd = [None, True, False, 0, 1, 12, -5, 10 ** 30 - 1, "", "table", "x" * 400, "a\nb"]
        odd += [(), [], {}, [()], [(), (4,)], list(T), [list(row) for row in T]]
        odd += [{"table": T}, {"0": ()}, deep(40, list), [deep(39)]]
        for value in odd:
            self.check(value, WHOLE)

    def test_number_of_rows(self):
        self.check((), WHOLE)
        for count in range(1, 13):
            self.check(tuple((1,) * i for i in range(count)), None)
        self.check(tuple((1,) * i for i in range(13)), WHOLE)
        self.check(tuple((1,) * i for i in range(14)), WHOLE)
        self.check(((),) * 13, WHOLE)
        self.check((None,) * 4000, WHOLE)
        self.check((None,) * 12, ((0,), ROW))

    def test_first_row(self):
        for row in (None, True, 0, "", [], {}, (1,), (None,), ((),), "a", deep(30)):
            self.check((row,), ((0,), ROW))
            self.check((row, (4,)), ((0,), ROW))

    def test_rows_that_are_none(self):
        for row in (None, False, 1, "a", "ab", [4], [4, 4], {"a": 1}, {"a": 1, "b": 2}, (), (4,), (4, 4, 4), [1, [2]]):
            self.check(((), (4,), row), ((2,), ROW))
            self.check(((), (4,), row, (0, 0, 0)), ((2,), ROW))

    def test_row_as_a_whole_ahead_of_its_levels(self):
        self.check(((), (4,), (0, 0, 0)), ((2,), ROW))
        self.check(((), (4,), [0, 0]), ((2,), ROW))
        self.check(((), (4,), (True,)), ((2,), ROW))

    def test_row_by_row(self):
        self.check(((), (0,), (1,)), ((1, 0), LEVEL))
        self.check(((), (0,), None), ((1, 0), LEVEL))
        self.check(((), (1, 1), (0, 0)), ((1,), ROW))
        self.check((None, (0,)), ((0,), ROW))
        self.check(((), (1,), (1, 0), (0, 0, 0)), ((2, 1), LEVEL))

    def test_parts_that_are_no_levels(self):
        for part in (None, True, False, 0, -1, TOP + 1, "", "4", [], [4], (), (4,), {}, {"a": 4}, deep(20)):
            self.check(((), (part,)), ((1, 0), LEVEL))
            self.check(((), (4,), (4, part)), ((2, 1), LEVEL))
            self.check(((), (4,), (part, part), (4, part, 4)), ((2, 0), LEVEL))
            self.check(((), (4,), (4, 4), (4, part, part)), ((3, 1), LEVEL))

    def test_last_place_of_twelve_items(self):
        rows = [list(row) for row in TWELVE]
        rows[11][10] = TOP + 1
        self.check(tuple(tuple(row) for row in rows), ((11, 10), LEVEL))

    def test_odd_values(self):
        for value in ODD_VALUES:
            if value != ((),):
                self.assertIs(find_fault(value).__class__, tuple)


class TestLevelOf(unittest.TestCase, ItemChecks):
    def test_example(self):
        self.assertEqual((level_of(T, 1, 2), level_of(T, 3, 3)), (2, 0))

    def test_all_levels_in_both_directions(self):
        for table in [ONE, TWO, T, U, TWELVE, NESTED_TWELVE] + random_tables(4, 10, (3, 7, 12), TOP):
            for one, other in itertools.product(range(len(table)), repeat=2):
                self.assertEqual(level_of(table, one, other), plain_level(table, one, other))

    def test_no_items(self):
        self.check_no_items(level_of)


class TestLevelsOf(unittest.TestCase):
    def test_examples(self):
        self.assertEqual((levels_of(T), is_nested(T), is_nested(U)), ((2, 3, 4, 6), False, True))

    def test_levels(self):
        self.assertEqual(levels_of(ONE), ())
        self.assertEqual(levels_of(TWO), (5,))
        self.assertEqual(levels_of(U), (2, 3, 4))
        self.assertEqual(levels_of(EQUAL_TWELVE), (3,))
        self.assertEqual(levels_of(TWELVE), (1, 7, TOP))
        self.assertEqual(levels_of(NESTED_TWELVE), tuple(range(10, 120, 10)))
        self.assertEqual(levels_of(((), (TOP,), (1, TOP))), (1, TOP))
        # Numbers whose order as texts, or in a set, is another one.
        self.assertEqual(levels_of(((), (100,), (9, 20), (33, 8, TOP))), (8, 9, 20, 33, 100, TOP))
        self.assertIs(levels_of(T).__class__, tuple)


class TestNested(unittest.TestCase):
    def test_examples(self):
        self.assertEqual((uneven_items(T), uneven_items(U)), ((0, 1, 2), None))

    def test_few_items(self):
        for table in [ONE] + all_tables(2, 3):
            self.assertIs(is_nested(table), True)
            self.assertIs(uneven_items(table), None)

    def test_three_items(self):
        for table in all_tables(3, 4):
            levels = (table[1][0], table[2][0], table[2][1])
            even = levels.count(max(levels)) >= 2
            with self.subTest(table=table):
                self.assertIs(is_nested(table), even)
                self.assertEqual(uneven_items(table), None if even else (0, 1, 2))

    def test_the_smallest_three(self):
        for table in all_tables(4, 2) + random_tables(5, 80, (4, 5, 7), 2) + random_tables(6, 20, (12,), TOP):
            wanted = None
            for trio in itertools.combinations(range(len(table)), 3):
                levels = sorted(plain_level(table, one, other) for one, other in itertools.combinations(trio, 2))
                if wanted is None and levels[1] < levels[2]:
                    wanted = trio
            with self.subTest(table=table):
                self.assertEqual(uneven_items(table), wanted)
                self.assertIs(is_nested(table), wanted is None)
                self.assertIs(is_nested(table), plain_nested(table))

    def test_twelve_items(self):
        for table in (EQUAL_TWELVE, NESTED_TWELVE):
            self.assertIs(is_nested(table), True)
            self.assertIs(uneven_items(table), None)
        self.assertEqual(uneven_items(TWELVE), (0, 2, 4))
        last = NESTED_TWELVE[:11] + ((110,) * 9 + (TOP, 110),)
        self.assertEqual(uneven_items(last), (0, 9, 11))
        self.assertIs(is_nested(last), False)
        late = EQUAL_TWELVE[:11] + ((3,) * 10 + (4,),)
        self.assertEqual(uneven_items(late), (0, 10, 11))
        apart = NESTED_TWELVE[:11] + ((110,) * 10 + (109,),)
        self.assertEqual(uneven_items(apart), (0, 10, 11))
        self.assertIs(uneven_items(apart).__class__, tuple)

    def test_only_the_last_three_are_uneven(self):
        rows = [[TOP] * i for i in range(12)]
        rows[10][9], rows[11][9], rows[11][10] = 5, 7, 6
        self.assertEqual(uneven_items(tuple(tuple(row) for row in rows)), (9, 10, 11))


if __name__ == "__main__":
    unittest.main()
