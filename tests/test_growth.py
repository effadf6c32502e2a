"""Points [44] to [50], and points [2] (g) and [3] for them."""

import copy
import itertools
import random
import unittest

from mergelevels.errors import (
    InvalidCount, InvalidLevel, InvalidRow, LastItem, NoItems, NoSuchItem, RepeatedItem, SameItem, TooLow, TooMany,
    Unlike,
)
from mergelevels.growth import glued, row_fault, selected, set_level, side_by_side, with_item, without_item
from mergelevels.tables import find_fault
from tests.samples import (
    ANY_VALUES, EQUAL_TWELVE, NESTED_TWELVE, ONE, T, TOP, TWELVE, TWO, U,
    ErrorChecks, ItemChecks, KindChecks, all_tables, deep, drawn_nested, is_lower, large_tables, non_items, non_levels,
    pairs, plain_level, plain_nested, random_tables, small_tables,
)

NESTED = [ONE, TWO, U, NESTED_TWELVE[:11], EQUAL_TWELVE[:11]] + drawn_nested(81, 40, (2, 3, 4, 5, 11), 6)
TABLES = small_tables() + large_tables() + [ONE, TWO, T, U]


def plain_table(count, level):
    """The table with the level that a function gives between each two items."""
    return tuple(tuple(level(i, j) for j in range(i)) for i in range(count))


def plain_selected(table, items):
    """The table of some items, numbered in their order."""
    return plain_table(len(items), lambda i, j: plain_level(table, items[i], items[j]))


class TestWithItem(unittest.TestCase, KindChecks, ErrorChecks):
    def test_example(self):
        self.assertEqual(with_item(U, 1, 1), ((), (4,), (4, 2), (4, 3, 3), (4, 1, 2, 3)))

    def test_plain_computation(self):
        for table in NESTED:
            for nearest, level in itertools.product(range(len(table)), (1, 2, 3, 4, 6, 7, 60, TOP)):
                row = [max(level, plain_level(table, nearest, item)) for item in range(len(table))]
                with self.subTest(table=table, nearest=nearest, level=level):
                    grown = with_item(table, nearest, level)
                    self.assertEqual(grown, (*table, tuple(row)))
                    self.assertEqual(grown[-1][nearest], level)
                    self.assertTrue(plain_nested(grown))
                    self.assertIs(find_fault(grown), None)
                    self.assert_tuples(grown)

    def test_one_and_twelve_items(self):
        self.assertEqual(with_item(ONE, 0, 1), ((), (1,)))
        self.assertEqual(with_item(ONE, 0, TOP), ((), (TOP,)))
        self.assertEqual(with_item(EQUAL_TWELVE[:11], 10, 3), EQUAL_TWELVE)
        self.assertEqual(with_item(NESTED_TWELVE[:11], 0, 110), NESTED_TWELVE)

    def test_no_items(self):
        for table in (ONE, TWO, U, EQUAL_TWELVE):
            for bad in non_items(len(table)):
                self.assert_very(NoSuchItem, "item", bad, with_item, table, bad, 5)
        for bad in ANY_VALUES:
            if not (bad.__class__ is int and 0 <= bad < 4):
                self.assert_very(NoSuchItem, "item", bad, with_item, U, bad, 5)

    def test_no_levels(self):
        for bad in non_levels():
            self.assert_very(InvalidLevel, "level", bad, with_item, U, 0, bad)

    def test_thirteen_items(self):
        self.assert_error(TooMany, {}, with_item, EQUAL_TWELVE, 0, 3)
        self.assert_error(TooMany, {}, with_item, NESTED_TWELVE, 11, TOP)

    def test_order_of_the_errors(self):
        self.assert_error(NoSuchItem, {"item": 12}, with_item, EQUAL_TWELVE, 12, 0)
        self.assert_error(NoSuchItem, {"item": True}, with_item, U, True, True)
        self.assert_error(InvalidLevel, {"level": 0}, with_item, EQUAL_TWELVE, 0, 0)
        self.assert_error(InvalidLevel, {"level": TOP + 1}, with_item, EQUAL_TWELVE, 0, TOP + 1)


class TestRowFault(unittest.TestCase, KindChecks, ErrorChecks):
    def test_example(self):
        self.assertEqual((row_fault(U, (4, 1, 2, 3)), row_fault(U, (4, 4, 4, 1))), (None, (1, 3)))

    def plain_fault(self, table, row):
        """The first pair whose greatest level with the new item occurs only once."""
        for one, other in pairs(table):
            levels = sorted([row[one], row[other], plain_level(table, one, other)])
            if levels[1] != levels[2]:
                return one, other
        return None

    def check(self, table, row):
        with self.subTest(table=table, row=row):
            found = row_fault(table, row)
            self.assertEqual(found, self.plain_fault(table, row))
            self.assertIs(found is None, plain_nested((*table, row)))
            if found is not None:
                self.assert_tuples(found)
            return found is None

    def test_all_rows_of_small_tables(self):
        for count in (1, 2, 3):
            for table in all_tables(count, 3):
                if plain_nested(table):
                    for row in itertools.product(range(1, 5), repeat=count):
                        self.check(table, row)

    def test_drawn_rows(self):
        source = random.Random(82)
        for table in NESTED:
            for _ in range(10):
                self.check(table, tuple(source.randint(1, 6) for _ in table))
            for nearest in range(len(table)):
                self.assertTrue(self.check(table, with_item(table, nearest, source.randint(1, 7))[-1]))

    def test_a_nearest_item_and_a_level(self):
        """Point [2] (g): exactly these rows keep the table nested."""
        for table in [table for table in all_tables(3, 3) if plain_nested(table)] + drawn_nested(83, 8, (4,), 3):
            given = {
                with_item(table, nearest, level)[-1] for nearest in range(len(table)) for level in range(1, 5)
            }
            for row in itertools.product(range(1, 5), repeat=len(table)):
                self.assertIs(row_fault(table, row) is None, row in given)

    def test_one_two_and_twelve_items(self):
        self.assertIs(row_fault(ONE, (1,)), None)
        self.assertIs(row_fault(ONE, (TOP,)), None)
        self.assertIs(row_fault(TWO, (5, 5)), None)
        self.assertIs(row_fault(TWO, (5, 1)), None)
        self.assertEqual(row_fault(TWO, (4, 4)), (0, 1))
        self.assertEqual(row_fault(TWO, (6, 1)), (0, 1))
        self.assertIs(row_fault(EQUAL_TWELVE[:11], (3,) * 11), None)
        self.assertEqual(row_fault(EQUAL_TWELVE[:11], (3,) * 9 + (2, 2)), (9, 10))
        # One more item than a table can have: this function does not raise an error for it.
        self.assertIs(row_fault(EQUAL_TWELVE, (3,) * 12), None)
        self.assertEqual(row_fault(EQUAL_TWELVE, (2, 3, 3, 3, 3, 3, 3, 3, 3, 3, 3, 2)), (0, 11))

    def test_no_rows(self):
        for table in (ONE, TWO, U):
            for value in ANY_VALUES:
                self.assert_very(InvalidRow, "row", value, row_fault, table, value)
            for bad in non_levels():
                for place in range(len(table)):
                    row = [4] * len(table)
                    row[place] = bad
                    self.assert_error(InvalidRow, {"row": tuple(row)}, row_fault, table, tuple(row))
        for row in ((), (4,), (4, 4, 4), (4, 4, 4, 4, 4), [4, 4, 4, 4], {"a": 4}, "4444", (4, 4, 4, [4])):
            self.assert_very(InvalidRow, "row", row, row_fault, U, row)


class TestWithoutItem(unittest.TestCase, KindChecks, ErrorChecks):
    def test_example(self):
        self.assertEqual(without_item(T, 0), ((), (2,), (6, 3)))

    def test_plain_computation(self):
        for table in TABLES:
            for item in range(len(table)) if len(table) > 1 else []:
                rest = [other for other in range(len(table)) if other != item]
                with self.subTest(table=table, item=item):
                    self.assertEqual(without_item(table, item), plain_selected(table, rest))
                    self.assert_tuples(without_item(table, item))

    def test_two_and_twelve_items(self):
        self.assertEqual(without_item(TWO, 0), ONE)
        self.assertEqual(without_item(TWO, 1), ONE)
        self.assertEqual(without_item(NESTED_TWELVE, 11), NESTED_TWELVE[:11])

    def test_no_items(self):
        for table in (ONE, TWO, T, TWELVE):
            for bad in non_items(len(table)):
                self.assert_very(NoSuchItem, "item", bad, without_item, table, bad)
        for bad in ANY_VALUES:
            if not (bad.__class__ is int and 0 <= bad < 4):
                self.assert_very(NoSuchItem, "item", bad, without_item, T, bad)

    def test_the_last_item(self):
        self.assert_error(LastItem, {}, without_item, ONE, 0)
        self.assert_error(NoSuchItem, {"item": 1}, without_item, ONE, 1)


class TestSelected(unittest.TestCase, KindChecks, ErrorChecks):
    def test_example(self):
        self.assertEqual(selected(T, 3, 1), ((), (6,)))

    def test_all_orders_of_small_tables(self):
        for table in (ONE, TWO, T, U, *random_tables(84, 4, (4, 5), 9)):
            for size in range(1, len(table) + 1):
                for items in itertools.permutations(range(len(table)), size):
                    self.assertEqual(selected(table, *items), plain_selected(table, items))
                    self.assert_tuples(selected(table, *items))

    def test_twelve_items(self):
        source = random.Random(85)
        for table in large_tables():
            for size in (1, 2, 7, len(table)):
                items = source.sample(range(len(table)), size)
                self.assertEqual(selected(table, *items), plain_selected(table, items))
            self.assertEqual(selected(table, *range(len(table))), table)

    def test_no_items_at_all(self):
        for table in (ONE, T, TWELVE):
            self.assert_error(NoItems, {}, selected, table)

    def test_values_that_are_no_items(self):
        for table in (ONE, TWO, T, TWELVE):
            for bad in non_items(len(table)):
                self.assert_very(NoSuchItem, "item", bad, selected, table, bad)
                self.assert_very(NoSuchItem, "item", bad, selected, table, 0, bad, 0)
                self.assert_very(NoSuchItem, "item", bad, selected, table, bad, len(table), "z")
        for bad in ANY_VALUES:
            if not (bad.__class__ is int and 0 <= bad < 4):
                self.assert_very(NoSuchItem, "item", bad, selected, T, 1, bad)

    def test_repeated_items(self):
        self.assert_error(RepeatedItem, {"item": 0}, selected, ONE, 0, 0)
        self.assert_error(RepeatedItem, {"item": 2}, selected, T, 2, 2)
        self.assert_error(RepeatedItem, {"item": 1}, selected, T, 0, 1, 2, 1, 0)
        self.assert_error(RepeatedItem, {"item": 3}, selected, T, 3, 0, 3, 0)
        self.assert_error(RepeatedItem, {"item": 0}, selected, TWELVE, *range(12), 0)
        self.assert_error(RepeatedItem, {"item": 5}, selected, T[:1] + EQUAL_TWELVE[1:], 5, 4, 3, 5, 4)

    def test_order_of_the_errors(self):
        self.assert_error(NoSuchItem, {"item": 4}, selected, T, 1, 1, 4)
        self.assert_error(NoSuchItem, {"item": True}, selected, T, 1, True)
        self.assert_error(NoSuchItem, {"item": None}, selected, T, 0, 0, None, 9)


class TestSideBySide(unittest.TestCase, KindChecks, ErrorChecks):
    def test_example(self):
        self.assertEqual(side_by_side(ONE, ((), (2,)), 5), ((), (5,), (5, 2)))

    def test_plain_computation(self):
        drawn = random_tables(86, 12, (1, 2, 3, 5, 6), 5) + [ONE, TWO, T, U]
        for one, other, level in itertools.product(drawn, drawn, (6, 7, TOP)):
            size = len(one)

            def wanted(i, j):
                if j < size <= i:
                    return level
                return plain_level(one, i, j) if i < size else plain_level(other, i - size, j - size)

            joined = side_by_side(one, other, level)
            self.assertEqual(joined, plain_table(size + len(other), wanted))
            self.assert_tuples(joined)
            self.assertIs(find_fault(joined), None)
            self.assertIs(plain_nested(joined), plain_nested(one) and plain_nested(other))

    def test_edges(self):
        self.assertEqual(side_by_side(ONE, ONE, 1), ((), (1,)))
        self.assertEqual(side_by_side(ONE, ONE, TOP), ((), (TOP,)))
        self.assertEqual(side_by_side(TWO, TWO, 5), ((), (5,), (5, 5), (5, 5, 5)))
        self.assertEqual(side_by_side(EQUAL_TWELVE[:11], ONE, 3), EQUAL_TWELVE)
        self.assertEqual(side_by_side(ONE, EQUAL_TWELVE[:11], 3), EQUAL_TWELVE)
        self.assertEqual(len(side_by_side(EQUAL_TWELVE[:6], EQUAL_TWELVE[:6], TOP)), 12)

    def test_no_levels(self):
        for bad in non_levels():
            self.assert_very(InvalidLevel, "level", bad, side_by_side, ONE, TWO, bad)
            self.assert_very(InvalidLevel, "level", bad, side_by_side, EQUAL_TWELVE, T, bad)

    def test_too_low(self):
        for one, other in ((TWO, ONE), (ONE, TWO), (TWO, TWO), (TWO, ((), (2,))), (((), (2,)), TWO)):
            for level in (1, 4):
                self.assert_error(TooLow, {"least": 5}, side_by_side, one, other, level)
            self.assertEqual(len(side_by_side(one, other, 5)), len(one) + len(other))
        self.assert_error(TooLow, {"least": 6}, side_by_side, T, U, 5)
        self.assert_error(TooLow, {"least": 6}, side_by_side, U, T, 5)
        self.assert_error(TooLow, {"least": TOP}, side_by_side, ((), (TOP,)), ONE, TOP - 1)

    def test_thirteen_items(self):
        self.assert_error(TooMany, {}, side_by_side, EQUAL_TWELVE, ONE, 3)
        self.assert_error(TooMany, {}, side_by_side, ONE, EQUAL_TWELVE, 3)
        self.assert_error(TooMany, {}, side_by_side, EQUAL_TWELVE[:7], EQUAL_TWELVE[:6], 3)
        self.assert_error(TooMany, {}, side_by_side, EQUAL_TWELVE, EQUAL_TWELVE, TOP)

    def test_order_of_the_errors(self):
        self.assert_error(InvalidLevel, {"level": 0}, side_by_side, EQUAL_TWELVE, ONE, 0)
        self.assert_error(TooLow, {"least": 3}, side_by_side, EQUAL_TWELVE, ONE, 2)


class TestGlued(unittest.TestCase, KindChecks, ErrorChecks):
    def glueable(self):
        """(one, other, shared): parts of drawn nested tables, of which the first items are the same."""
        found = []
        source = random.Random(87)
        for table in drawn_nested(88, 120, (2, 3, 5, 8, 12), 6) + drawn_nested(89, 20, (12,), TOP):
            count = len(table)
            shared = source.randint(1, count)
            middle = source.randint(shared, count)
            one = table[:middle]
            other = plain_selected(table, [*range(shared), *range(middle, count)])
            found.append((one, other, shared))
        return found

    def plain_glued(self, one, other, shared):
        """The levels of both tables, and between further items the least way over a shared item."""
        def wanted(i, j):
            if i < len(one):
                return plain_level(one, i, j)
            further = i - len(one) + shared
            if j >= len(one):
                return plain_level(other, further, j - len(one) + shared)
            if j < shared:
                return plain_level(other, further, j)
            return min(max(plain_level(one, j, s), plain_level(other, further, s)) for s in range(shared))
        return plain_table(len(one) + len(other) - shared, wanted)

    def test_example(self):
        self.assertEqual(glued(((), (4,)), ((), (7,)), 1), ((), (4,), (7, 7)))

    def test_plain_computation(self):
        for one, other, shared in self.glueable():
            with self.subTest(one=one, other=other, shared=shared):
                found = glued(one, other, shared)
                self.assertEqual(found, self.plain_glued(one, other, shared))
                self.assertTrue(plain_nested(found))
                self.assertIs(find_fault(found), None)
                self.assert_tuples(found)

    def test_no_nested_table_is_greater(self):
        nested = [table for table in all_tables(4, 3) if plain_nested(table)]
        for shared, middle in ((1, 2), (1, 3), (2, 3), (1, 1), (2, 2)):
            parts = {}
            rest = [*range(shared), *range(middle, 4)]
            for table in nested:
                parts.setdefault((table[:middle], plain_selected(table, rest)), []).append(table)
            for (one, other), tables in parts.items():
                found = glued(one, other, shared)
                self.assertIn(found, tables)
                self.assertTrue(all(is_lower(table, found) for table in tables))

    def test_edges(self):
        self.assertEqual(glued(ONE, ONE, 1), ONE)
        self.assertEqual(glued(ONE, TWO, 1), TWO)
        self.assertEqual(glued(TWO, ONE, 1), TWO)
        self.assertEqual(glued(TWO, TWO, 2), TWO)
        self.assertEqual(glued(U, U, 4), U)
        self.assertEqual(glued(EQUAL_TWELVE, EQUAL_TWELVE, 12), EQUAL_TWELVE)
        self.assertEqual(glued(EQUAL_TWELVE[:6], EQUAL_TWELVE[:7], 1), EQUAL_TWELVE)
        self.assertEqual(glued(((), (1,)), ((), (TOP,)), 1), ((), (1,), (TOP, TOP)))
        self.assertEqual(glued(NESTED_TWELVE[:7], NESTED_TWELVE, 7), NESTED_TWELVE)

    def test_no_counts(self):
        for one, other in ((ONE, ONE), (TWO, U), (U, TWO), (U, U), (EQUAL_TWELVE, TWO)):
            most = min(len(one), len(other))
            for bad in ANY_VALUES + (most + 1, -1, 0, (1,), [1], "1"):
                if not (bad.__class__ is int and 1 <= bad <= most):
                    self.assert_very(InvalidCount, "count", bad, glued, one, other, bad)

    def test_different_levels_of_shared_items(self):
        other = ((), (4,), (4, 2), (4, 4, 4))
        self.assert_error(Unlike, {"one": 1, "other": 3}, glued, U, other, 4)
        self.assertEqual(len(glued(U, other, 3)), 5)
        self.assert_error(Unlike, {"one": 0, "other": 1}, glued, TWO, U, 2)
        self.assert_error(Unlike, {"one": 0, "other": 1}, glued, U, TWO, 2)
        # In the order of pairs (0, 3) comes before (1, 2).
        one, other = ((), (9,), (9, 1), (5, 9, 9)), ((), (9,), (9, 2), (6, 9, 9))
        self.assert_error(Unlike, {"one": 0, "other": 3}, glued, one, other, 4)
        self.assert_error(Unlike, {"one": 1, "other": 2}, glued, one, other, 3)

    def test_all_pairs_of_small_tables(self):
        nested = [table for table in all_tables(3, 3) if plain_nested(table)]
        for one, other in itertools.product(nested, repeat=2):
            unlike = [pair for pair in pairs(one) if plain_level(one, *pair) != plain_level(other, *pair)]
            if unlike:
                fields = {"one": unlike[0][0], "other": unlike[0][1]}
                self.assert_error(Unlike, fields, glued, one, other, 3)
            else:
                self.assertEqual(glued(one, other, 3), one)

    def test_thirteen_items(self):
        self.assert_error(TooMany, {}, glued, EQUAL_TWELVE, TWO, 1)
        self.assert_error(TooMany, {}, glued, TWO, EQUAL_TWELVE, 1)
        self.assert_error(TooMany, {}, glued, EQUAL_TWELVE[:7], EQUAL_TWELVE[:7], 1)
        self.assertEqual(glued(EQUAL_TWELVE[:7], EQUAL_TWELVE[:7], 2), EQUAL_TWELVE)

    def test_order_of_the_errors(self):
        self.assert_error(InvalidCount, {"count": 3}, glued, TWO, EQUAL_TWELVE, 3)
        self.assert_error(InvalidCount, {"count": True}, glued, EQUAL_TWELVE, EQUAL_TWELVE, True)
        self.assert_error(Unlike, {"one": 0, "other": 1}, glued, TWO, EQUAL_TWELVE, 2)
        self.assert_error(Unlike, {"one": 0, "other": 1}, glued, EQUAL_TWELVE, NESTED_TWELVE, 2)


class TestSetLevel(unittest.TestCase, KindChecks, ItemChecks, ErrorChecks):
    def test_example(self):
        self.assertEqual(set_level(T, 3, 0, 9), ((), (4,), (6, 2), (9, 6, 3)))

    def test_plain_computation(self):
        for table in TABLES:
            before = copy.deepcopy(table)
            for one, other in pairs(table):
                for level in (1, 5, TOP):
                    wanted = plain_table(
                        len(table), lambda i, j: level if (j, i) == (one, other) else table[i][j]
                    )
                    self.assertEqual(set_level(table, one, other, level), wanted)
                    self.assertEqual(set_level(table, other, one, level), wanted)
            self.assertEqual(table, before)
        self.assert_tuples(set_level(T, 1, 2, 5))

    def test_the_same_level(self):
        for table in TABLES:
            for one, other in pairs(table):
                self.assertEqual(set_level(table, one, other, plain_level(table, one, other)), table)

    def test_no_items(self):
        self.check_no_items(set_level, 5)
        self.check_no_items(set_level, 0)
        self.check_same_item(set_level, 5)
        self.check_same_item(set_level, None)

    def test_no_levels(self):
        for bad in non_levels():
            self.assert_very(InvalidLevel, "level", bad, set_level, T, 0, 1, bad)
            self.assert_very(InvalidLevel, "level", bad, set_level, TWO, 1, 0, bad)

    def test_order_of_the_errors(self):
        self.assert_error(NoSuchItem, {"item": 4}, set_level, T, 4, 5, 0)
        self.assert_error(NoSuchItem, {"item": 5}, set_level, T, 1, 5, 0)
        self.assert_error(SameItem, {"item": 2}, set_level, T, 2, 2, 0)
        self.assert_error(InvalidLevel, {"level": 0}, set_level, T, 2, 1, 0)
        self.assert_error(SameItem, {"item": 0}, set_level, ONE, 0, 0, 5)


class TestDeepValues(unittest.TestCase, ErrorChecks):
    def test_values_that_are_nested_forty_deep(self):
        for value in (deep(40), deep(40, list)):
            self.assert_very(NoSuchItem, "item", value, with_item, U, value, value)
            self.assert_very(InvalidLevel, "level", value, with_item, U, 0, value)
            self.assert_very(InvalidRow, "row", value, row_fault, U, value)
            self.assert_very(InvalidCount, "count", value, glued, U, U, value)
            self.assert_very(NoSuchItem, "item", value, selected, U, value)


if __name__ == "__main__":
    unittest.main()
