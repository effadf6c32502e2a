"""Point [2], (a) to (i), over drawn tables."""

import itertools
import random
import unittest

from mergelevels.below import best_division, best_path, check_join, join_level, nested_below
from mergelevels.boards import Board, NestedBoard
from mergelevels.deviations import check_deviation, deviation_between, greatest_gap, least_deviation
from mergelevels.errors import Contradictory, MergeError
from mergelevels.groups import clusters_of, joins_of
from mergelevels.growth import row_fault, set_level, with_item
from mergelevels.opens import check_contradiction, contradiction_of, greatest_filling, level_range
from mergelevels.orders import greatest_of, is_below, ranked, regraded
from mergelevels.spanning import (
    count_least_trees, is_least_tree, least_tree, least_trees, possible_pairs, sure_pairs, tree_levels,
)
from mergelevels.tables import is_nested, levels_of, uneven_items
from mergelevels.trees import is_tree, table_of, tree_of
from tests.board_samples import BoardChecks
from tests.samples import (
    ONE, T, TOP, TWO, U, all_divisions, all_paths, all_spanning_trees, all_tables, drawn_nested, drawn_open_tables,
    large_tables, pairs, plain_height, plain_level, plain_nested, plain_sum, plain_width, random_tables,
)

DRAWN = random_tables(71, 40, (3, 4, 5), 5) + random_tables(72, 10, (4, 5), TOP) + [ONE, TWO, T, U]
NESTED = drawn_nested(73, 20, (3, 4, 5), 5)


class TestNestedTablesAndTrees(unittest.TestCase):
    """(a) A table is nested, or three items show that it is not. Nested tables and trees correspond."""

    def test_three_items(self):
        seen = {True: 0, False: 0}
        for table in DRAWN + NESTED + large_tables():
            three = uneven_items(table)
            seen[three is None] += 1
            self.assertIs(is_nested(table), three is None)
            self.assertIs(plain_nested(table), three is None)
            if three is not None:
                levels = sorted(plain_level(table, *pair) for pair in itertools.combinations(three, 2))
                self.assertLess(levels[1], levels[2])
        self.assertGreater(min(seen.values()), 10)

    def test_trees(self):
        trees = {}
        for table in NESTED + drawn_nested(78, 40, range(1, 13), 4) + drawn_nested(79, 10, (12,), TOP):
            tree = tree_of(table)
            self.assertTrue(is_tree(tree))
            self.assertEqual(table_of(tree), table)
            self.assertEqual(tree_of(table_of(tree)), tree)
            # No tree stands for two tables.
            self.assertEqual(trees.setdefault(repr(tree), table), table)


class TestPathsAndDivisions(unittest.TestCase):
    """(b) The least height of a path equals the greatest width of a division, and what is accepted shows it."""

    def test_all_paths_and_divisions(self):
        for table in DRAWN[:20] + NESTED[:10]:
            for one, other in pairs(table):
                paths = all_paths(table, one, other)
                divisions = [part for part in all_divisions(table) if one in part and other not in part]
                join = join_level(table, one, other)
                self.assertEqual(join, min(plain_height(table, path) for path in paths))
                self.assertEqual(join, max(plain_width(table, division) for division in divisions))
                for path, division in itertools.product(paths, divisions):
                    if check_join(table, one, other, (path, division)):
                        self.assertEqual(plain_height(table, path), join)
                        self.assertEqual(plain_width(table, division), join)

    def test_large_tables(self):
        for table in large_tables():
            for one, other in itertools.permutations(range(len(table)), 2):
                shown = (best_path(table, one, other), best_division(table, one, other))
                self.assertTrue(check_join(table, one, other, shown))


class TestNestedTablesBelow(unittest.TestCase):
    """(b) Every nested table that is below the table is below the table of the joining levels."""

    def test_drawn_nested_tables(self):
        seen = 0
        for count in (4, 6, 12):
            nested = drawn_nested(count, 60, (count,), 20)
            for table in random_tables(count + 1, 10, (count,), 40):
                for lower in nested:
                    # This table is above the nested one, whatever was drawn.
                    above = greatest_of(table, lower)
                    self.assertTrue(is_below(lower, nested_below(above)))
                    if is_below(lower, table):
                        seen += 1
                        self.assertTrue(is_below(lower, nested_below(table)))
        self.assertGreater(seen, 10)

    def test_the_table_of_the_joining_levels_is_one_of_them(self):
        for table in DRAWN + NESTED + large_tables():
            self.assertTrue(is_below(nested_below(table), table))
            self.assertTrue(is_nested(nested_below(table)))


class TestLeastSpanningTrees(unittest.TestCase):
    """(c) The least spanning trees are exactly those whose greatest steps are the joining levels."""

    def test_all_spanning_trees_of_drawn_tables(self):
        trees = {count: all_spanning_trees(count) for count in range(1, 6)}
        for table in DRAWN + NESTED:
            below = nested_below(table)
            least = min(plain_sum(table, tree) for tree in trees[len(table)])
            for tree in trees[len(table)]:
                with self.subTest(table=table, tree=tree):
                    equal = tree_levels(table, tree) == below
                    self.assertIs(equal, plain_sum(table, tree) == least)
                    self.assertIs(equal, is_least_tree(table, tree))

    def test_least_trees_of_large_tables(self):
        for table in large_tables():
            self.assertEqual(tree_levels(table, least_tree(table)), nested_below(table))
            for tree in itertools.islice(least_trees(table), 20):
                self.assertEqual(tree_levels(table, tree), nested_below(table))


class TestLeastDeviation(unittest.TestCase):
    """(d) The least deviation is half of the greatest gap, rounded up, and every certificate shows it."""

    def test_no_nested_table_is_nearer(self):
        nested = [table for table in all_tables(4, 4) if plain_nested(table)]
        for table in random_tables(74, 60, (4,), 4):
            nearest = min(deviation_between(table, near) for near in nested)
            self.assertEqual(nearest, least_deviation(table))
            self.assertEqual(nearest, -(-greatest_gap(table) // 2))

    def test_whatever_is_accepted(self):
        nested = [table for table in all_tables(4, 4) if plain_nested(table)]
        ends = list(itertools.product(range(4), repeat=2))
        accepted = 0
        for table in random_tables(75, 12, (4,), 4):
            paths = [path for one, other in ends for path in all_paths(table, one, other)]
            for near, path in itertools.product(nested, paths):
                if check_deviation(table, (near, path)):
                    accepted += 1
                    self.assertEqual(deviation_between(table, near), least_deviation(table))
        self.assertGreater(accepted, 100)


class TestGreatestOfNestedTables(unittest.TestCase):
    """(e) The greatest of nested tables, place by place, is nested."""

    def test_drawn_nested_tables(self):
        for count in (1, 2, 3, 5, 8, 12):
            drawn = drawn_nested(76 + count, 24, (count,), 9) + drawn_nested(77 + count, 6, (count,), TOP)
            for size in (1, 2, 3, 5):
                for start in range(0, len(drawn) - size, size):
                    self.assertTrue(plain_nested(greatest_of(*drawn[start:start + size])))


class TestFillings(unittest.TestCase):
    """(f) There is a filling or a contradiction, never both; an unknown level has exactly the values of its range."""

    def test_drawn_open_tables(self):
        seen = {True: 0, False: 0}
        for table in drawn_open_tables(80, 60, (3, 4, 6, 12), 6) + drawn_open_tables(81, 20, (5, 12), TOP):
            found = contradiction_of(table)
            seen[found is None] += 1
            if found is None:
                self.check_filling(table, greatest_filling(table))
            else:
                self.assertTrue(check_contradiction(table, found))
                self.assertRaises(Contradictory, greatest_filling, table)
        self.assertGreater(min(seen.values()), 15)

    def check_filling(self, table, filling):
        self.assertTrue(plain_nested(filling))
        for one, other in pairs(table):
            level = plain_level(table, one, other)
            if level is not None:
                self.assertEqual(plain_level(filling, one, other), level)
            else:
                self.check_range(table, one, other)

    def check_range(self, table, one, other):
        least, greatest = level_range(table, one, other)
        for level in (1, least - 1, least, (least + greatest) // 2, greatest, greatest + 1, TOP):
            if 1 <= level <= TOP:
                inside = contradiction_of(set_level(table, one, other, level)) is None
                self.assertIs(inside, least <= level <= greatest)


class TestFurtherRows(unittest.TestCase):
    """(g) A further row keeps a table nested if and only if it is given by a nearest item and a level."""

    def test_drawn_rows(self):
        source = random.Random(82)
        seen = {True: 0, False: 0}
        for table in NESTED + drawn_nested(83, 30, range(1, 12), 4):
            rows = [tuple(source.randint(1, 4) for _ in table) for _ in range(20)]
            rows += [with_item(table, source.randrange(len(table)), source.randint(1, 5))[-1] for _ in range(5)]
            for row in rows:
                nearest = min(range(len(table)), key=lambda item: row[item])
                given = with_item(table, nearest, row[nearest])[-1] == row
                seen[given] += 1
                self.assertIs(row_fault(table, row) is None, given)
                self.assertIs(plain_nested((*table, row)), given)
        self.assertGreater(min(seen.values()), 100)


class TestBoardsAfterActions(unittest.TestCase, BoardChecks):
    """(i) After any actions and undos a board answers as a new board of the same table with the same cut."""

    def act(self, source, board):
        """Tries an action, an undo, a batch or another cut."""
        count = len(board.table())
        row = tuple(source.randint(1, 5) for _ in range(count))
        steps = [("drop", source.randrange(count)), ("add", row), ("add", (7,) * count)]
        steps.append(("change", source.randrange(count), source.randrange(count), source.randint(1, 6)))
        name, *values = source.choice([
            *steps, ("undo",), ("undo",), ("cut_at", source.randint(0, 6)), ("run", source.sample(steps, 2)),
        ])
        try:
            getattr(board, name)(*values)
        except MergeError:
            return False
        return True

    def test_drawn_actions(self):
        source = random.Random(84)
        done = 0
        for table in DRAWN + NESTED + large_tables()[:3]:
            for kind in (Board, NestedBoard) if plain_nested(table) else (Board,):
                board = kind(table)
                for _ in range(12):
                    done += self.act(source, board)
                    if len(board.table()) < 7:
                        self.assert_answers(board)
                self.assert_answers(board)
        self.assertGreater(done, 300)


class TestOtherLevelsInTheSameOrder(unittest.TestCase):
    """(h) Clusters, the parts of joins and least spanning trees stay."""

    def changed_tables(self, table):
        count = len(levels_of(table))
        ranks = range(1, count + 1)
        return [
            ranked(table),
            regraded(table, tuple(rank ** 3 + 5 for rank in ranks)),
            regraded(table, tuple(TOP - count + rank for rank in ranks)),
            regraded(table, tuple(min(3 ** rank, TOP - count + rank) for rank in ranks)),
        ]

    def test_drawn_tables(self):
        for table in DRAWN + NESTED + large_tables():
            for other in self.changed_tables(table):
                with self.subTest(table=table, other=other):
                    self.assertEqual(clusters_of(other), clusters_of(table))
                    parts = sorted(parts for level, parts in joins_of(table))
                    self.assertEqual(sorted(parts for level, parts in joins_of(other)), parts)
                    self.assertEqual(least_tree(other), least_tree(table))
                    self.assertEqual(count_least_trees(other), count_least_trees(table))
                    self.assertEqual(sure_pairs(other), sure_pairs(table))
                    self.assertEqual(possible_pairs(other), possible_pairs(table))
                    few = list(itertools.islice(least_trees(table), 130))
                    self.assertEqual(list(itertools.islice(least_trees(other), 130)), few)

    def test_all_least_trees_of_drawn_tables(self):
        for table in DRAWN + NESTED:
            trees = all_spanning_trees(len(table))
            least = [tree for tree in trees if is_least_tree(table, tree)]
            for other in self.changed_tables(table)[:2]:
                self.assertEqual([tree for tree in trees if is_least_tree(other, tree)], least)


if __name__ == "__main__":
    unittest.main()
