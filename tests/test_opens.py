"""Points [39] to [43], and points [2] (f) and [3] for them."""

import copy
import itertools
import random
import unittest

from mergelevels.errors import Contradictory, NoSuchItem, SameItem
from mergelevels.opens import (
    check_contradiction, contradiction_of, find_open_fault, forced_pairs, greatest_filling, level_range,
)
from mergelevels.tables import find_fault, uneven_items
from tests.samples import (
    ANY_VALUES, EQUAL_TWELVE, NESTED_TWELVE, ONE, T, TOP, TWELVE, TWO, U,
    ErrorChecks, ItemChecks, KindChecks, all_paths, all_tables, deep, drawn_open_tables, is_lower,
    non_items, pairs, plain_groups, plain_level, plain_nested, random_tables, small_tables, table_from,
)

OPEN = ((), (4,), (None, 2), (None, None, 3))
UNKNOWN_TWO = ((), (None,))
UNKNOWN_TWELVE = tuple((None,) * i for i in range(12))
CHAIN_TWELVE = tuple(tuple(i if i - j == 1 else None for j in range(i)) for i in range(12))


def all_open_tables(count, levels):
    """All open tables with count items whose known levels are among the given ones."""
    size = count * (count - 1) // 2
    return [table_from(count, choice) for choice in itertools.product((None, *levels), repeat=size)]


def few_open_tables():
    """Open tables that are small enough for a search over all paths."""
    small = all_open_tables(1, (1,)) + all_open_tables(2, (1, TOP)) + all_open_tables(3, (1, 2, 3))
    return small + drawn_open_tables(1, 90, (4, 5), 4) + drawn_open_tables(2, 20, (6,), 5) + [T, U, OPEN]


def known_paths(table, one, other):
    """All paths from one item to another one whose steps are all known."""
    return [
        path for path in all_paths(table, one, other)
        if all(plain_level(table, *step) is not None for step in zip(path, path[1:]))
    ]


def known_height(table, path):
    """The height of a known path."""
    return max([0] + [plain_level(table, *step) for step in zip(path, path[1:])])


def plain_contradictions(table):
    """All contradictions, by a search over all known paths."""
    return [
        (one, other, path)
        for one, other in pairs(table) if plain_level(table, one, other) is not None
        for path in known_paths(table, one, other)
        if known_height(table, path) < plain_level(table, one, other)
    ]


def plain_contradicted(table):
    """The smallest pair with a known level of items that lower known levels join, None if there is none."""
    # Higher than every level: at such a step no group of a lower level goes on.
    known = tuple(tuple(TOP + 1 if level is None else level for level in row) for row in table)
    for one, other in pairs(table):
        level = plain_level(table, one, other)
        if level is not None and any({one, other} <= set(group) for group in plain_groups(known, level - 1)):
            return one, other
    return None


def with_level(table, one, other, level):
    """The table with another level, or None, between two items."""
    rows = [list(row) for row in table]
    rows[max(one, other)][min(one, other)] = level
    return tuple(tuple(row) for row in rows)


def is_filling(nested, table):
    """Whether a nested table has all known levels of an open table."""
    return all(
        known is None or known == level for row, upper in zip(table, nested) for known, level in zip(row, upper)
    )


def searched_tables():
    """(open tables, nested tables): the nested ones contain all levels at which the ranges can end."""
    low, high = (1, 2, 3, 4, TOP), (1, TOP - 3, TOP - 2, TOP - 1, TOP)
    for count in (1, 2, 3, 4):
        size = count * (count - 1) // 2
        for levels in (low, high):
            every = [table_from(count, choice) for choice in itertools.product(levels, repeat=size)]
            nested = [table for table in every if plain_nested(table)]
            known = levels[:3] if levels == low else levels[2:]
            tables = all_open_tables(count, known)
            if count == 4:
                tables = random.Random(levels[1]).sample(tables, 250)
            yield tables, nested


class TestFindOpenFault(unittest.TestCase):
    def check(self, value, wanted):
        before = copy.deepcopy(value)
        with self.subTest(value=value):
            self.assertEqual(find_open_fault(value), wanted)
            self.assertEqual(find_open_fault(value), wanted)
            self.assertEqual(value, before)

    def test_example(self):
        self.check(((), (None,), (1, True)), ((2, 1), "level"))

    def test_open_tables(self):
        for table in few_open_tables() + [TWELVE, EQUAL_TWELVE, UNKNOWN_TWELVE, CHAIN_TWELVE, ONE, TWO, UNKNOWN_TWO]:
            self.check(table, None)
        for level in (1, TOP, None):
            self.check(((), (level,)), None)

    def test_values_without_none_as_a_level(self):
        for value in ANY_VALUES:
            self.check(value, find_fault(value))
        for table in small_tables():
            self.check(table, None)

    def test_rows_and_tables_that_are_none(self):
        self.check(None, ((), "table"))
        self.check((), ((), "table"))
        self.check([()], ((), "table"))
        self.check((None,), ((0,), "row"))
        self.check(((None,),), ((0,), "row"))
        self.check(((), None), ((1,), "row"))
        self.check(((), [None]), ((1,), "row"))
        self.check(((), (None, None)), ((1,), "row"))
        self.check(((), (None,), (None,)), ((2,), "row"))
        self.check(((), (None,), (None, (None,))), ((2, 1), "level"))
        self.check(tuple((None,) * i for i in range(13)), ((), "table"))

    def test_levels(self):
        for bad in (0, -1, TOP + 1, True, False, "", "None", "5", (), [], {}, (None,), [None], deep(30), 10 ** 30 - 1):
            self.check(((), (bad,)), ((1, 0), "level"))
            self.check(((), (None,), (None, bad), (bad, bad, None)), ((2, 1), "level"))
            self.check(((), (None,), (bad, None)), ((2, 0), "level"))

    def test_kind_of_the_result(self):
        found = find_open_fault(((), (0,)))
        self.assertIs(found.__class__, tuple)
        self.assertIs(found[0].__class__, tuple)


class TestContradictionOf(unittest.TestCase, KindChecks):
    def test_example(self):
        self.assertEqual(contradiction_of(T), (0, 2, (0, 1, 2)))

    def test_search_over_all_known_paths(self):
        seen = {True: 0, False: 0}
        for table in few_open_tables():
            wanted = plain_contradictions(table)
            found = contradiction_of(table)
            seen[bool(wanted)] += 1
            with self.subTest(table=table):
                if wanted:
                    self.assertIn(found, wanted)
                    self.assertEqual(found[:2], min(wanted)[:2])
                    self.assert_tuples(found)
                    self.assertIs(check_contradiction(table, found), True)
                else:
                    self.assertIs(found, None)
                self.assertEqual(contradiction_of(table), found)
        self.assertGreater(min(seen.values()), 30)

    def test_large_tables(self):
        seen = {True: 0, False: 0}
        for table in drawn_open_tables(3, 60, (9, 11, 12), 6) + drawn_open_tables(4, 30, (12,), TOP):
            pair = plain_contradicted(table)
            found = contradiction_of(table)
            seen[pair is None] += 1
            if pair is None:
                self.assertIs(found, None)
            else:
                self.assertEqual(found[:2], pair)
                self.assertIs(check_contradiction(table, found), True)
        self.assertGreater(min(seen.values()), 10)

    def test_tables_without_unknown_levels(self):
        for table in small_tables():
            self.assertIs(contradiction_of(table) is None, uneven_items(table) is None)

    def test_one_two_and_twelve_items(self):
        for table in (ONE, TWO, UNKNOWN_TWO, U, EQUAL_TWELVE, NESTED_TWELVE, UNKNOWN_TWELVE, CHAIN_TWELVE):
            self.assertIs(contradiction_of(table), None)
        long = with_level(CHAIN_TWELVE, 0, 11, 12)
        self.assertEqual(contradiction_of(long), (0, 11, tuple(range(12))))
        self.assertIs(contradiction_of(with_level(CHAIN_TWELVE, 0, 11, 11)), None)
        self.assertEqual(contradiction_of(with_level(CHAIN_TWELVE, 0, 11, 10)), (10, 11, (10, *range(9, -1, -1), 11)))

    def test_levels_at_the_edges(self):
        self.assertEqual(contradiction_of(((), (1,), (TOP, 1))), (0, 2, (0, 1, 2)))
        self.assertIs(contradiction_of(((), (1,), (TOP, TOP))), None)
        self.assertIs(contradiction_of(((), (1,), (TOP, None))), None)
        self.assertEqual(contradiction_of(((), (TOP - 1,), (TOP, TOP - 1))), (0, 2, (0, 1, 2)))


class TestCheckContradiction(unittest.TestCase):
    def check(self, wanted, table, value):
        before = copy.deepcopy(value)
        with self.subTest(table=table, value=value):
            self.assertIs(check_contradiction(table, value), wanted)
            self.assertEqual(value, before)

    def test_example(self):
        self.check(False, U, (0, 1, (0, 1)))

    def test_all_paths_of_small_tables(self):
        accepted = 0
        for table in all_open_tables(3, (1, 2)) + drawn_open_tables(5, 40, (4, 5), 4) + [T, U, OPEN]:
            wanted = plain_contradictions(table)
            accepted += len(wanted)
            items = range(len(table))
            every = [path for ends in itertools.product(items, repeat=2) for path in all_paths(table, *ends)]
            for one, other, path in itertools.product(items, items, every):
                value = (one, other, path)
                self.assertIs(check_contradiction(table, value), value in wanted)
        self.assertGreater(accepted, 30)

    def test_one_place_changed(self):
        value = (0, 2, (0, 1, 2))
        self.check(True, T, value)
        for place in range(3):
            for part in ANY_VALUES + tuple(non_items(4)):
                changed = (*value[:place], part, *value[place + 1:])
                # For Python some of these equal the right part: True equals 1.
                if repr(part) != repr(value[place]):
                    self.check(False, T, changed)
        for place in range(3):
            for part in ANY_VALUES + tuple(non_items(4)):
                path = [0, 1, 2]
                path[place] = part
                if repr(path) != repr([0, 1, 2]):
                    self.check(False, T, (0, 2, tuple(path)))

    def test_two_places_changed(self):
        value = (1, 3, (1, 2, 3))
        self.check(True, T, value)
        wanted = plain_contradictions(T)
        parts = [0, 1, 2, 3, 4, -1, True, False, None, "1", (0, 1), (1, 2, 3), (3, 2, 1), [1, 2, 3], (True, 2, 3), ()]
        for (place, one), (further, other) in itertools.product(itertools.product(range(3), parts), repeat=2):
            changed = list(value)
            changed[place] = one
            changed[further] = other
            self.check(repr(tuple(changed)) in [repr(right) for right in wanted], T, tuple(changed))

    def test_values_of_all_kinds(self):
        for table in (ONE, TWO, T, U, OPEN, TWELVE, UNKNOWN_TWELVE):
            for value in ANY_VALUES:
                self.check(False, table, value)
                self.check(False, table, (value,))
                self.check(False, table, (0, 2, value, value))
        self.check(False, T, [0, 2, (0, 1, 2)])
        self.check(False, T, (0, 2, [0, 1, 2]))
        self.check(False, T, ((0, 2), (0, 1, 2)))
        self.check(False, T, (0, 2, (0, 1, 2), None))

    def test_unknown_levels_and_steps(self):
        self.check(False, ((), (1,), (None, 1)), (0, 2, (0, 1, 2)))
        self.check(True, ((), (1,), (2, 1)), (0, 2, (0, 1, 2)))
        self.check(False, ((), (None,), (2, 1)), (0, 2, (0, 1, 2)))
        self.check(False, ((), (1,), (TOP, None)), (0, 2, (0, 1, 2)))

    def test_equal_heights_and_repeated_items(self):
        self.check(False, ((), (1,), (2, 2)), (0, 2, (0, 1, 2)))
        self.check(False, T, (0, 2, (0, 1, 0, 1, 2)))
        self.check(False, T, (2, 0, (2, 1, 0)))
        self.check(False, T, (0, 2, (2, 1, 0)))
        self.check(False, T, (0, 0, (0,)))


class TestFillings(unittest.TestCase, KindChecks, ErrorChecks):
    """greatest_filling, level_range and forced_pairs, and point [2] (f)."""

    def test_examples(self):
        self.assertEqual(greatest_filling(OPEN), ((), (4,), (4, 2), (4, 3, 3)))
        self.assertEqual(level_range(((), (4,), (None, 2)), 0, 2), (4, 4))
        self.assertEqual(level_range(((), (4,), (None, 4)), 2, 0), (1, 4))
        self.assertEqual(forced_pairs(OPEN), ((0, 2), (0, 3), (1, 3)))

    def check_fillings(self, table, fillings):
        """The results against the list of all fillings with the levels at which ranges can end."""
        greatest = greatest_filling(table)
        self.assertIn(greatest, fillings)
        self.assertTrue(all(is_lower(filling, greatest) for filling in fillings))
        forced = []
        for one, other in pairs(table):
            values = {plain_level(filling, one, other) for filling in fillings}
            wanted = (min(values), max(values))
            self.assertEqual(level_range(table, one, other), wanted)
            self.assertEqual(level_range(table, other, one), wanted)
            if len(values) == 1 and plain_level(table, one, other) is None:
                forced.append((one, other))
        self.assertEqual(forced_pairs(table), tuple(forced))
        self.assert_tuples((greatest, forced_pairs(table)))

    def check_contradictory(self, table, pair):
        fields = {"one": pair[0], "other": pair[1]}
        self.assert_error(Contradictory, fields, greatest_filling, table)
        self.assert_error(Contradictory, fields, forced_pairs, table)
        for one, other in pairs(table):
            self.assert_error(Contradictory, fields, level_range, table, one, other)
            self.assert_error(Contradictory, fields, level_range, table, other, one)

    def test_search_over_all_fillings(self):
        seen = {True: 0, False: 0}
        for tables, nested in searched_tables():
            for table in tables:
                fillings = [filling for filling in nested if is_filling(filling, table)]
                seen[bool(fillings)] += 1
                with self.subTest(table=table):
                    # There is a filling or a contradiction, never both.
                    self.assertIs(contradiction_of(table) is None, bool(fillings))
                    if fillings:
                        self.check_fillings(table, fillings)
                    else:
                        self.check_contradictory(table, min(plain_contradictions(table))[:2])
        self.assertGreater(min(seen.values()), 50)

    def test_every_value_of_the_range_occurs(self):
        nested = [table for table in all_tables(4, 5) if plain_nested(table)]
        for table in drawn_open_tables(6, 80, (4,), 5):
            fillings = [filling for filling in nested if is_filling(filling, table)]
            for one, other in pairs(table) if fillings else []:
                least, greatest = level_range(table, one, other)
                values = {plain_level(filling, one, other) for filling in fillings}
                self.assertEqual(values, set(range(least, min(greatest, 5) + 1)))

    def test_large_tables(self):
        filled = 0
        for table in drawn_open_tables(7, 45, (9, 11, 12), 6) + drawn_open_tables(8, 20, (12,), TOP):
            pair = plain_contradicted(table)
            if pair is not None:
                self.check_contradictory(table, pair)
                continue
            filled += 1
            greatest = greatest_filling(table)
            self.assertIs(find_fault(greatest), None)
            self.assertTrue(plain_nested(greatest))
            self.assertTrue(is_filling(greatest, table))
            self.check_ranges(table, greatest)
        self.assertGreater(filled, 20)

    def check_ranges(self, table, filling):
        """An open table with a level of the range has fillings; with one just outside of it, it has none."""
        forced = []
        for one, other in pairs(table):
            least, greatest = level_range(table, one, other)
            self.assertEqual(plain_level(filling, one, other), greatest)
            self.assertTrue(1 <= least <= greatest <= TOP)
            if plain_level(table, one, other) is not None:
                self.assertEqual((least, greatest), (plain_level(table, one, other),) * 2)
                continue
            for level in (least, (least + greatest) // 2, greatest):
                self.assertIs(plain_contradicted(with_level(table, one, other, level)), None)
            for level in (least - 1, greatest + 1):
                if 1 <= level <= TOP:
                    self.assertIsNot(plain_contradicted(with_level(table, one, other, level)), None)
            if least == greatest:
                forced.append((one, other))
        self.assertEqual(forced_pairs(table), tuple(forced))

    def test_no_levels_unknown(self):
        for table in (ONE, TWO, U, EQUAL_TWELVE, NESTED_TWELVE):
            self.assertEqual(greatest_filling(table), table)
            self.assertEqual(forced_pairs(table), ())
            for one, other in pairs(table):
                self.assertEqual(level_range(table, one, other), (plain_level(table, one, other),) * 2)
        for table in random_tables(9, 20, (4, 12), 6):
            if not plain_nested(table):
                self.check_contradictory(table, plain_contradicted(table))

    def test_all_levels_unknown(self):
        for table in (UNKNOWN_TWO, UNKNOWN_TWELVE):
            self.assertEqual(greatest_filling(table), tuple((TOP,) * i for i in range(len(table))))
            self.assertEqual(forced_pairs(table), ())
            for one, other in pairs(table):
                self.assertEqual(level_range(table, one, other), (1, TOP))
        self.assertEqual(greatest_filling(ONE), ONE)

    def test_chain_of_twelve_items(self):
        self.assertEqual(greatest_filling(CHAIN_TWELVE), tuple((i,) * i for i in range(12)))
        unknown = [pair for pair in pairs(CHAIN_TWELVE) if pair[1] - pair[0] > 1]
        self.assertEqual(forced_pairs(CHAIN_TWELVE), tuple(unknown))
        level = tuple(tuple(3 if i - j == 1 else None for j in range(i)) for i in range(12))
        self.assertEqual(greatest_filling(level), EQUAL_TWELVE)
        self.assertEqual(forced_pairs(level), ())
        self.assertEqual(level_range(level, 0, 11), (1, 3))

    def test_levels_at_the_edges(self):
        self.assertEqual(level_range(((), (TOP,), (None, 1)), 0, 2), (TOP, TOP))
        self.assertEqual(forced_pairs(((), (TOP,), (None, 1))), ((0, 2),))
        self.assertEqual(level_range(((), (1,), (None, 1)), 2, 0), (1, 1))
        self.assertEqual(forced_pairs(((), (1,), (None, 1))), ((0, 2),))
        self.assertEqual(level_range(((), (1,), (None, None)), 0, 2), (1, TOP))
        # Not forced by one step, but by a path on each side.
        table = ((), (1,), (None, None), (9, None, 2))
        self.assertEqual(level_range(table, 1, 2), (9, 9))


class TestLevelRangeErrors(unittest.TestCase, ItemChecks, ErrorChecks):
    def test_no_items_and_the_same_item(self):
        self.check_no_items(level_range)
        self.check_same_item(level_range)

    def test_values_of_all_kinds(self):
        for value in ANY_VALUES:
            if not (value.__class__ is int and 0 <= value < 4):
                self.assert_very(NoSuchItem, "item", value, level_range, OPEN, value, 0)
                self.assert_very(NoSuchItem, "item", value, level_range, OPEN, 0, value)

    def test_order_of_the_errors(self):
        # T is contradictory as an open table.
        self.assert_error(NoSuchItem, {"item": 4}, level_range, T, 4, 5)
        self.assert_error(NoSuchItem, {"item": 5}, level_range, T, 1, 5)
        self.assert_error(NoSuchItem, {"item": True}, level_range, T, True, True)
        self.assert_error(SameItem, {"item": 1}, level_range, T, 1, 1)
        self.assert_error(Contradictory, {"one": 0, "other": 2}, level_range, T, 1, 3)
        self.assert_error(Contradictory, {"one": 0, "other": 2}, level_range, T, 0, 1)


if __name__ == "__main__":
    unittest.main()
