"""Points [21] to [26], and point [3] for them."""

import copy
import inspect
import itertools
import unittest

from mergelevels.errors import NotSpanning
from mergelevels.spanning import (
    count_least_trees, is_least_tree, least_tree, least_trees, possible_pairs, sure_pairs, tree_levels,
)
from tests.samples import (
    EQUAL_TWELVE, NESTED_TWELVE, ODD_VALUES, ONE, T, TOP, TWELVE, TWO, U,
    KindChecks, all_spanning_trees, deep, drawn_nested, large_tables, pairs, plain_connected, plain_height,
    plain_sum, random_tables, small_tables, time_limit,
)

SMALL = small_tables() + drawn_nested(41, 20, (4, 5), 3) + drawn_nested(42, 4, (6,), TOP) + [T, U]
TREES = {count: all_spanning_trees(count) for count in range(1, 7)}
STAR = tuple((0, item) for item in range(1, 12))
CHAIN = tuple((item, item + 1) for item in range(11))


def plain_least_trees(table):
    """All least spanning trees, ascending, by a search over all spanning trees."""
    sums = [plain_sum(table, tree) for tree in TREES[len(table)]]
    return [tree for tree, total in zip(TREES[len(table)], sums) if total == min(sums)]


def path_along(tree, one, other):
    """The path from one item to another along a spanning tree."""
    waiting = [(one,)]
    while waiting[0][-1] != other:
        path = waiting.pop(0)
        for pair in tree:
            if path[-1] in pair:
                end = pair[0] + pair[1] - path[-1]
                if end not in path:
                    waiting.append((*path, end))
    return waiting[0]


def plain_tree_levels(table, tree):
    """The greatest steps along a spanning tree."""
    return tuple(
        tuple(plain_height(table, path_along(tree, one, other)) for other in range(one))
        for one in range(len(table))
    )


def grown_tree(table):
    """A least spanning tree that grows from item 0, always by a lowest step."""
    inside, tree = [0], []
    while len(inside) < len(table):
        steps = [
            (table[max(one, other)][min(one, other)], one, other)
            for one in inside for other in range(len(table)) if other not in inside
        ]
        level, one, other = min(steps)
        inside.append(other)
        tree.append((min(one, other), max(one, other)))
    return tuple(sorted(tree))


class TestLeastTree(unittest.TestCase, KindChecks):
    def test_example(self):
        self.assertEqual(least_tree(T), ((0, 1), (1, 2), (2, 3)))

    def test_search_over_all_spanning_trees(self):
        for table in SMALL:
            with self.subTest(table=table):
                self.assertEqual(least_tree(table), plain_least_trees(table)[0])
                self.assert_tuples(least_tree(table))

    def test_one_two_and_twelve_items(self):
        self.assertEqual(least_tree(ONE), ())
        self.assertEqual(least_tree(TWO), ((0, 1),))
        self.assertEqual(least_tree(((), (TOP,))), ((0, 1),))
        self.assertEqual(least_tree(EQUAL_TWELVE), STAR)
        self.assertEqual(least_tree(NESTED_TWELVE), STAR)
        chains = tuple((item, item + 2) for item in range(10))
        self.assertEqual(least_tree(TWELVE), tuple(sorted(chains + ((0, 11),))))

    def test_twelve_items_have_the_least_sum(self):
        for table in large_tables():
            tree = least_tree(table)
            self.assertTrue(plain_connected(len(table), tree))
            self.assertEqual(plain_sum(table, tree), plain_sum(table, grown_tree(table)))
            self.assertEqual(list(tree), sorted(set(tree)))
            self.assertEqual(least_tree(table), tree)


class TestIsLeastTree(unittest.TestCase):
    def test_example(self):
        self.assertIs(is_least_tree(T, ((0, 2), (1, 2), (2, 3))), False)
        self.assertIs(is_least_tree(T, ((0, 1), (1, 2), (2, 3))), True)

    def test_all_spanning_trees(self):
        for table in SMALL:
            least = plain_least_trees(table)
            for tree in TREES[len(table)]:
                self.assertIs(is_least_tree(table, tree), tree in least, (table, tree))

    def test_one_two_and_twelve_items(self):
        self.assertIs(is_least_tree(ONE, ()), True)
        self.assertIs(is_least_tree(TWO, ((0, 1),)), True)
        self.assertIs(is_least_tree(EQUAL_TWELVE, STAR), True)
        self.assertIs(is_least_tree(EQUAL_TWELVE, CHAIN), True)
        self.assertIs(is_least_tree(NESTED_TWELVE, CHAIN), True)
        self.assertIs(is_least_tree(TWELVE, CHAIN), False)
        self.assertIs(is_least_tree(TWELVE, STAR), False)
        for table in large_tables():
            self.assertIs(is_least_tree(table, grown_tree(table)), True)

    def test_great_levels(self):
        table = ((), (TOP,), (TOP, TOP - 1))
        self.assertIs(is_least_tree(table, ((0, 1), (0, 2))), False)
        self.assertIs(is_least_tree(table, ((0, 1), (1, 2))), True)


class TestTreeLevels(unittest.TestCase, KindChecks):
    def test_example(self):
        self.assertEqual(tree_levels(T, ((0, 2), (1, 2), (2, 3))), ((), (6,), (6, 2), (6, 3, 3)))

    def test_all_spanning_trees(self):
        for table in SMALL:
            for tree in TREES[len(table)][::1 if len(table) < 6 else 17]:
                with self.subTest(table=table, tree=tree):
                    found = tree_levels(table, tree)
                    self.assertEqual(found, plain_tree_levels(table, tree))
                    self.assert_tuples(found)

    def test_one_two_and_twelve_items(self):
        self.assertEqual(tree_levels(ONE, ()), ONE)
        self.assertEqual(tree_levels(TWO, ((0, 1),)), TWO)
        self.assertEqual(tree_levels(((), (TOP,)), ((0, 1),)), ((), (TOP,)))
        self.assertEqual(tree_levels(EQUAL_TWELVE, CHAIN), EQUAL_TWELVE)
        self.assertEqual(tree_levels(NESTED_TWELVE, STAR), NESTED_TWELVE)
        self.assertEqual(tree_levels(TWELVE, CHAIN), tuple((TOP,) * i for i in range(12)))
        for table in large_tables():
            count = len(table)
            for tree in (STAR[:count - 1], CHAIN[:count - 1], grown_tree(table)):
                self.assertEqual(tree_levels(table, tree), plain_tree_levels(table, tree))


class TestNoSpanningTree(unittest.TestCase):
    """Values that are not spanning trees, for is_least_tree and tree_levels."""

    def check(self, table, value):
        before = copy.deepcopy(value)
        with self.subTest(table=table, value=value):
            self.assertIs(is_least_tree(table, value), False)
            with self.assertRaises(NotSpanning) as caught:
                tree_levels(table, value)
            self.assertIs(caught.exception.__class__, NotSpanning)
            self.assertEqual(value, before)

    def test_odd_values(self):
        for value in ODD_VALUES + (T, U, deep(40), deep(40, list), {"0": (0, 1)}):
            for table in (ONE, TWO, T, EQUAL_TWELVE):
                if (table, value) != (ONE, ()):
                    self.check(table, value)

    def test_odd_values_in_the_place_of_pairs(self):
        for value in ODD_VALUES + (T, deep(38), deep(38, list)):
            self.check(TWO, (value,))
            for place in range(3):
                tree = [(0, 1), (1, 2), (2, 3)]
                tree[place] = value
                self.check(T, tuple(tree))

    def test_lists_in_the_place_of_tuples(self):
        self.check(ONE, [])
        self.check(TWO, [(0, 1)])
        self.check(TWO, ([0, 1],))
        self.check(T, [(0, 1), (1, 2), (2, 3)])
        self.check(T, ((0, 1), [1, 2], (2, 3)))
        self.check(T, ([0, 1], [1, 2], [2, 3]))
        self.check(EQUAL_TWELVE, list(STAR))

    def test_pairs_in_the_other_order(self):
        self.check(TWO, ((1, 0),))
        self.check(T, ((1, 0), (1, 2), (2, 3)))
        self.check(T, ((0, 1), (2, 1), (2, 3)))
        self.check(T, ((0, 1), (1, 2), (3, 2)))

    def test_pairs_not_ascending(self):
        for tree in itertools.permutations(((0, 1), (1, 2), (2, 3))):
            if tree != ((0, 1), (1, 2), (2, 3)):
                self.check(T, tree)
        self.check(EQUAL_TWELVE, STAR[::-1])
        self.check(EQUAL_TWELVE, STAR[:9] + (STAR[10], STAR[9]))

    def test_pairs_twice(self):
        self.check(TWO, ((0, 1), (0, 1)))
        self.check(T, ((0, 1), (0, 1), (2, 3)))
        self.check(T, ((0, 1), (1, 2), (1, 2)))
        self.check(T, ((0, 1), (1, 2), (2, 3), (2, 3)))
        self.check(T, ((0, 1), (1, 2), (1, 2), (2, 3)))

    def test_too_few_and_too_many(self):
        self.check(ONE, ((0, 0),))
        self.check(ONE, ((0, 1),))
        self.check(TWO, ())
        self.check(T, ())
        self.check(T, ((0, 1), (1, 2)))
        self.check(T, ((0, 1), (0, 2), (1, 2), (2, 3)))
        self.check(T, tuple(pairs(T)))
        self.check(EQUAL_TWELVE, STAR[1:])
        self.check(EQUAL_TWELVE, STAR + ((1, 2),))
        self.check(T, STAR)

    def test_bools_in_the_place_of_items(self):
        self.check(TWO, ((False, True),))
        self.check(TWO, ((0, True),))
        self.check(TWO, ((False, 1),))
        self.check(T, ((False, 1), (1, 2), (2, 3)))
        self.check(T, ((0, True), (1, 2), (2, 3)))
        self.check(T, ((0, 1), (True, 2), (2, 3)))

    def test_pairs_that_are_none(self):
        for bad in ((0, 0), (1, 1), (1, 4), (0, -1), (-1, 2), (1,), (1, 2, 3), (), (1, "2"), (1, None), ("1", "2")):
            self.check(T, ((0, 1), bad, (2, 3)))
        # -1 is the last item for Python: it must not stand for item 3 here.
        self.check(T, ((-1, 2), (0, 1), (1, 2)))
        self.check(T, ((0, 1), (1, 2), (2, 4)))
        self.check(T, ((0, 1), (1, 2), (2, 10 ** 30 - 1)))

    def test_nested_ones(self):
        self.check(TWO, (((0, 1),),))
        self.check(T, (((0, 1), (1, 2), (2, 3)),))
        self.check(T, ((0, 1), ((1, 2),), (2, 3)))
        self.check(T, (((0,), (1,)), (1, 2), (2, 3)))
        self.check(T, ((0, 1), (1, (2,)), (2, 3)))
        self.check(T, ((0, 1), ([1], 2), (2, 3)))

    def test_not_connected(self):
        for table in (T, U, ((), (1,), (1, 1), (1, 1, 1))):
            for tree in itertools.combinations(pairs(table), 3):
                if not plain_connected(4, tree):
                    self.check(table, tree)
        self.check(EQUAL_TWELVE, STAR[:10] + ((1, 2),))
        self.check(EQUAL_TWELVE, CHAIN[:5] + CHAIN[6:] + ((9, 11),))


class TestCountLeastTrees(unittest.TestCase):
    def test_examples(self):
        self.assertEqual((count_least_trees(((), (1,), (1, 1))), count_least_trees(T)), (3, 1))

    def test_search_over_all_spanning_trees(self):
        for table in SMALL:
            with self.subTest(table=table):
                self.assertEqual(count_least_trees(table), len(plain_least_trees(table)))

    def test_equal_levels(self):
        self.assertEqual(count_least_trees(EQUAL_TWELVE), 12 ** 10)
        for count in range(2, 13):
            for level in (1, 9, TOP):
                table = tuple((level,) * i for i in range(count))
                self.assertEqual(count_least_trees(table), count ** (count - 2))

    def test_one_two_and_twelve_items(self):
        self.assertEqual(count_least_trees(ONE), 1)
        self.assertEqual(count_least_trees(TWO), 1)
        self.assertEqual(count_least_trees(TWELVE), 1)
        # Item k can be connected with any of the k items before it.
        self.assertEqual(count_least_trees(NESTED_TWELVE), 39916800)
        # Six items that are near to each other, six others too: 6 ** 4 trees each, and 36 pairs between them.
        halves = tuple(tuple(1 if (i < 6) == (j < 6) else 2 for j in range(i)) for i in range(12))
        self.assertEqual(count_least_trees(halves), 6 ** 4 * 6 ** 4 * 36)
        # Every item of one half is near to every one of the other: the trees of the graph K(6, 6).
        across = tuple(tuple(2 if (i < 6) == (j < 6) else 1 for j in range(i)) for i in range(12))
        self.assertEqual(count_least_trees(across), 6 ** 5 * 6 ** 5)

    def test_kinds(self):
        for table in (ONE, T, EQUAL_TWELVE):
            self.assertIs(count_least_trees(table).__class__, int)


class TestSureAndPossiblePairs(unittest.TestCase, KindChecks):
    def test_example(self):
        table = ((), (1,), (2, 2))
        self.assertEqual((sure_pairs(table), possible_pairs(table)), (((0, 1),), ((0, 1), (0, 2), (1, 2))))

    def test_search_over_all_spanning_trees(self):
        for table in SMALL:
            trees = plain_least_trees(table)
            sure = tuple(pair for pair in pairs(table) if all(pair in tree for tree in trees))
            possible = tuple(pair for pair in pairs(table) if any(pair in tree for tree in trees))
            with self.subTest(table=table):
                self.assertEqual((sure_pairs(table), possible_pairs(table)), (sure, possible))
                self.assert_tuples((sure_pairs(table), possible_pairs(table)))

    def test_one_two_and_twelve_items(self):
        self.assertEqual((sure_pairs(ONE), possible_pairs(ONE)), ((), ()))
        self.assertEqual((sure_pairs(TWO), possible_pairs(TWO)), (((0, 1),), ((0, 1),)))
        self.assertEqual(sure_pairs(((), (TOP,))), ((0, 1),))
        self.assertEqual(sure_pairs(EQUAL_TWELVE), ())
        self.assertEqual(possible_pairs(EQUAL_TWELVE), tuple(pairs(EQUAL_TWELVE)))
        self.assertEqual(sure_pairs(NESTED_TWELVE), ((0, 1),))
        self.assertEqual(possible_pairs(NESTED_TWELVE), tuple(pairs(NESTED_TWELVE)))
        self.assertEqual(sure_pairs(TWELVE), least_tree(TWELVE))
        self.assertEqual(possible_pairs(TWELVE), least_tree(TWELVE))

    def test_twelve_items_without_one_pair(self):
        # A pair is sure if all trees without it are greater, and possible if some least tree has it.
        for table in large_tables():
            least = plain_sum(table, least_tree(table))
            for one, other in pairs(table)[::5]:
                rows = [list(row) for row in table]
                rows[other][one] = TOP * 20
                without = plain_sum(rows, grown_tree(rows))
                rows[other][one] = 0
                forced = plain_sum(rows, grown_tree(rows)) + table[other][one]
                self.assertIs((one, other) in sure_pairs(table), without > least)
                self.assertIs((one, other) in possible_pairs(table), forced == least)


class TestLeastTrees(unittest.TestCase, KindChecks):
    def test_example(self):
        self.assertEqual(list(least_trees(((), (1,), (2, 2)))), [((0, 1), (0, 2)), ((0, 1), (1, 2))])

    def test_generator(self):
        for table in (ONE, T, EQUAL_TWELVE):
            self.assertTrue(inspect.isgenerator(least_trees(table)))

    def test_search_over_all_spanning_trees(self):
        for table in SMALL:
            with self.subTest(table=table):
                trees = list(least_trees(table))
                self.assertEqual(trees, plain_least_trees(table))
                self.assertEqual(list(least_trees(table)), trees)
                for tree in trees:
                    self.assert_tuples(tree)

    def test_equal_levels(self):
        for count in range(1, 7):
            table = tuple((4,) * i for i in range(count))
            self.assertEqual(list(least_trees(table)), TREES[count])

    def test_one_two_and_twelve_items(self):
        self.assertEqual(list(least_trees(ONE)), [()])
        self.assertEqual(list(least_trees(TWO)), [((0, 1),)])
        self.assertEqual(list(least_trees(TWELVE)), [least_tree(TWELVE)])

    def test_the_first_ones_come_at_once(self):
        with time_limit(60):
            found = list(itertools.islice(least_trees(EQUAL_TWELVE), 300))
        plain = (tree for tree in itertools.combinations(pairs(EQUAL_TWELVE), 11) if plain_connected(12, tree))
        self.assertEqual(found, list(itertools.islice(plain, 300)))
        self.assertEqual(found[0], STAR)
        self.assertEqual(found[1], STAR[:10] + ((1, 11),))

    def test_the_first_ones_of_other_tables(self):
        # The greatest pairs have the lowest levels here, so that the first pairs are rarely possible.
        late = tuple(tuple(3 if j < 6 else 1 for j in range(i)) for i in range(12))
        drawn = random_tables(43, 6, (12,), 2) + drawn_nested(44, 6, (12,), 2)
        for table in [late, NESTED_TWELVE] + drawn:
            with time_limit(60):
                found = list(itertools.islice(least_trees(table), 200))
            self.assertEqual(len(found), min(200, count_least_trees(table)))
            self.assertEqual(found[0], least_tree(table))
            self.assertEqual(found, sorted(set(found)))
            least = plain_sum(table, grown_tree(table))
            for tree in found:
                self.assertTrue(plain_connected(12, tree))
                self.assertEqual((len(tree), plain_sum(table, tree)), (11, least))

    def test_as_many_as_counted(self):
        seen = 0
        for table in random_tables(45, 20, (8, 9, 12), 25) + drawn_nested(46, 6, (7,), 5):
            number = count_least_trees(table)
            if number <= 2000:
                seen += 1
                trees = list(least_trees(table))
                self.assertEqual((len(trees), len(set(trees))), (number, number))
        self.assertGreater(seen, 10)

    def test_two_generators_at_once(self):
        table = ((), (1,), (1, 1), (1, 1, 1))
        both = zip(least_trees(table), least_trees(table))
        self.assertEqual([one for one, other in both if one == other], TREES[4])


if __name__ == "__main__":
    unittest.main()
