"""Points [51] to [54], and point [3] for them."""

import itertools
import math
import random
import unittest

from mergelevels.errors import InvalidOrder
from mergelevels.naming import count_orders, find_order, relabeled, shape_of
from mergelevels.trees import tree_of
from tests.samples import (
    ANY_VALUES, EQUAL_TWELVE, NESTED_TWELVE, ONE, T, TOP, TWELVE, TWO, U,
    ErrorChecks, KindChecks, all_tables, deep, drawn_nested, large_tables, plain_level, plain_nested, random_tables,
    small_tables,
)

NESTED = drawn_nested(121, 30, (1, 2, 3, 4, 5), 3) + [ONE, TWO, U]
LARGE = drawn_nested(122, 20, (9, 11, 12), 3) + [EQUAL_TWELVE, NESTED_TWELVE]


def plain_relabeled(table, order):
    """The table whose item i is item order[i] of the given one."""
    return tuple(tuple(plain_level(table, order[i], order[j]) for j in range(i)) for i in range(len(order)))


def orders_between(one, other):
    """All orders that make one table the other one."""
    return [order for order in itertools.permutations(range(len(one))) if plain_relabeled(one, order) == other]


def plain_shape(tree):
    """A tree without names, by sorting until nothing changes any more."""
    if isinstance(tree, int):
        return ()
    parts = [plain_shape(part) for part in tree[1:]]
    for end in range(len(parts), 0, -1):
        for at in range(1, end):
            if parts[at] < parts[at - 1]:
                parts[at - 1], parts[at] = parts[at], parts[at - 1]
    return (tree[0], *parts)


def drawn_orders(source, table, many):
    """Some orders of the items."""
    return [tuple(source.sample(range(len(table)), len(table))) for _ in range(many)]


class TestRelabeled(unittest.TestCase, KindChecks, ErrorChecks):
    def test_example(self):
        self.assertEqual(relabeled(T, (3, 2, 1, 0)), ((), (3,), (6, 2), (6, 6, 4)))

    def test_all_orders_of_small_tables(self):
        for table in [ONE, TWO, T, U] + all_tables(3, 3) + random_tables(123, 8, (4, 5), 9):
            for order in itertools.permutations(range(len(table))):
                self.assertEqual(relabeled(table, order), plain_relabeled(table, order))
            self.assert_tuples(relabeled(table, order))
            self.assertEqual(relabeled(table, tuple(range(len(table)))), table)

    def test_twelve_items(self):
        source = random.Random(124)
        for table in large_tables():
            for order in drawn_orders(source, table, 5):
                self.assertEqual(relabeled(table, order), plain_relabeled(table, order))

    def test_wrong_orders(self):
        for order in itertools.product(range(-1, 5), repeat=4):
            if len(set(order) & {0, 1, 2, 3}) < 4:
                self.assert_very(InvalidOrder, "order", order, relabeled, T, order)
        for order in ((), (0, 1, 2), (0, 1, 2, 3, 4), (0, 1, 2, 3, 0), [0, 1, 2, 3], (0, 1, 2, "3"), ((0, 1, 2, 3),),
                      (0, True, 2, 3), (False, 1, 2, 3), (0, 1, 2, [3]), (0, 1, 2, None), (0, 1, 2, {}), "0123"):
            self.assert_very(InvalidOrder, "order", order, relabeled, T, order)
        for order in ((True,), (False,), [0], (1,), (), (0, 0), (None,), 0):
            self.assert_very(InvalidOrder, "order", order, relabeled, ONE, order)
        self.assert_error(InvalidOrder, {"order": (*range(11), 0)}, relabeled, TWELVE, (*range(11), 0))
        self.assert_error(InvalidOrder, {"order": tuple(range(13))}, relabeled, TWELVE, tuple(range(13)))

    def test_values_of_all_kinds(self):
        for value in ANY_VALUES + (deep(40), {"a": (0, 1, 2, 3)}):
            self.assert_very(InvalidOrder, "order", value, relabeled, T, value)
            self.assert_error(InvalidOrder, {"order": (0, 1, 2, value)}, relabeled, T, (0, 1, 2, value))


class TestShapeOf(unittest.TestCase, KindChecks):
    def test_example(self):
        self.assertEqual(shape_of(T), (4, (), (3, (), (2, (), ()))))

    def test_plain_computation(self):
        for table in NESTED + LARGE + small_tables() + large_tables():
            self.assertEqual(shape_of(table), plain_shape(tree_of(table)))
            self.assert_tuples(shape_of(table))

    def test_the_same_for_every_order(self):
        for table in NESTED + random_tables(125, 10, (3, 4, 5), 3) + [T]:
            shape = shape_of(table)
            for order in itertools.permutations(range(len(table))):
                self.assertEqual(shape_of(plain_relabeled(table, order)), shape)
        source = random.Random(126)
        for table in LARGE + large_tables():
            for order in drawn_orders(source, table, 6):
                self.assertEqual(shape_of(plain_relabeled(table, order)), shape_of(table))

    def test_some_tables(self):
        self.assertEqual(shape_of(ONE), ())
        self.assertEqual(shape_of(TWO), (5, (), ()))
        self.assertEqual(shape_of(((), (TOP,))), (TOP, (), ()))
        self.assertEqual(shape_of(EQUAL_TWELVE), (3, *((),) * 12))
        chain = ()
        for item in range(1, 12):
            chain = (10 * item, (), chain)
        self.assertEqual(shape_of(NESTED_TWELVE), chain)
        six = (1, *((),) * 6)
        self.assertEqual(shape_of(TWELVE), (7, six, six))
        # An item first, then the lower level, then the part whose parts are smaller.
        self.assertEqual(shape_of(((), (2,), (9, 9), (9, 9, 1), (9, 9, 9, 9))), (9, (), (1, (), ()), (2, (), ())))
        self.assertEqual(shape_of(((), (2,), (2, 2), (9, 9, 9), (9, 9, 9, 2))), (9, (2, (), ()), (2, (), (), ())))

    def test_different_tables(self):
        nested = [table for table in all_tables(4, 3) if plain_nested(table)]
        for one, other in itertools.combinations(nested, 2):
            self.assertIs(shape_of(one) == shape_of(other), bool(orders_between(one, other)))


class TestFindOrder(unittest.TestCase, KindChecks):
    def test_example(self):
        self.assertIs(find_order(((), (1,)), ((), (2,))), None)
        self.assertEqual(find_order(((), (1,), (2, 2)), ((), (2,), (2, 1)))[0], 2)

    def check(self, one, other, wanted):
        """The order is one of all that are right, None if there are none."""
        found = find_order(one, other)
        with self.subTest(one=one, other=other):
            self.assertEqual(find_order(one, other), found)
            if wanted:
                self.assertIn(found, wanted)
                self.assert_tuples(found)
                self.assertEqual(relabeled(one, found), other)
            else:
                self.assertIs(found, None)

    def test_search_over_all_orders(self):
        for count, top in ((1, 1), (2, 3), (3, 3)):
            nested = [table for table in all_tables(count, top) if plain_nested(table)]
            for one, other in itertools.product(nested, repeat=2):
                self.check(one, other, orders_between(one, other))
        nested = [table for table in all_tables(4, 2) if plain_nested(table)]
        for one, other in itertools.product(nested, repeat=2):
            self.check(one, other, orders_between(one, other))

    def test_drawn_tables(self):
        source = random.Random(127)
        for table in drawn_nested(128, 12, (5,), 3):
            for order in drawn_orders(source, table, 4):
                other = plain_relabeled(table, order)
                self.check(table, other, orders_between(table, other))

    def test_twelve_items(self):
        source = random.Random(129)
        for table in LARGE:
            for order in drawn_orders(source, table, 4):
                other = plain_relabeled(table, order)
                found = find_order(table, other)
                self.assertEqual(sorted(found), list(range(len(table))))
                self.assertEqual(plain_relabeled(table, found), other)
        self.assertIs(find_order(EQUAL_TWELVE, NESTED_TWELVE), None)

    def test_different_sizes(self):
        tables = (ONE, TWO, ((), (5,), (5, 5)), U, EQUAL_TWELVE[:11], EQUAL_TWELVE)
        for one, other in itertools.permutations(tables, 2):
            self.assertIs(find_order(one, other), None)
        for table in tables:
            self.assertEqual(plain_relabeled(table, find_order(table, table)), table)

    def test_the_same_levels_in_another_shape(self):
        one = ((), (1,), (2, 2), (2, 2, 1))
        other = ((), (1,), (2, 2), (2, 2, 2))
        self.assertIs(find_order(one, other), None)
        self.assertIs(find_order(((), (1,), (3, 3)), ((), (2,), (3, 3))), None)


class TestCountOrders(unittest.TestCase):
    def test_example(self):
        self.assertEqual((count_orders(((), (2,), (2, 2))), count_orders(U)), (6, 2))

    def test_search_over_all_orders(self):
        small = [table for table in all_tables(4, 3) if plain_nested(table)]
        for table in NESTED + small + drawn_nested(130, 4, (6,), 2):
            self.assertEqual(count_orders(table), len(orders_between(table, table)))

    def test_some_tables(self):
        self.assertEqual(count_orders(ONE), 1)
        self.assertEqual(count_orders(TWO), 2)
        self.assertEqual(count_orders(EQUAL_TWELVE), math.factorial(12))
        self.assertEqual(count_orders(NESTED_TWELVE), 2)
        # Three pairs that can be exchanged, each with two orders.
        pairs = tuple(tuple(1 if j // 2 == i // 2 else 2 for j in range(i)) for i in range(6))
        self.assertEqual(count_orders(pairs), 6 * 2 ** 3)
        fours = tuple(tuple(1 if j // 4 == i // 4 else 2 for j in range(i)) for i in range(12))
        self.assertEqual(count_orders(fours), 6 * 24 ** 3)

    def test_the_same_for_every_order(self):
        source = random.Random(131)
        for table in LARGE:
            for order in drawn_orders(source, table, 3):
                self.assertEqual(count_orders(plain_relabeled(table, order)), count_orders(table))


if __name__ == "__main__":
    unittest.main()
