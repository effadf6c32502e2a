"""Point [55]."""

import inspect
import math
import unittest

from mergelevels.counting import count_nested
from tests.samples import all_tables, plain_nested, time_limit


class TestCountNested(unittest.TestCase):
    def test_example(self):
        self.assertEqual(count_nested(3, 2), 5)
        self.assertEqual(count_nested(3, 2, every=True), 3)
        self.assertEqual(count_nested(1, 0), 1)

    def test_list_of_all_nested_tables(self):
        for count, most in ((1, 5), (2, 7), (3, 5), (4, 4), (5, 3)):
            for levels in range(most + 1):
                nested = [table for table in all_tables(count, levels) if plain_nested(table)]
                wanted = set(range(1, levels + 1))
                full = [table for table in nested if {level for row in table for level in row} == wanted]
                with self.subTest(count=count, levels=levels):
                    self.assertEqual(count_nested(count, levels), len(nested))
                    self.assertEqual(count_nested(count, levels, every=False), len(nested))
                    self.assertEqual(count_nested(count, levels, every=True), len(full))

    def test_one_and_two_items(self):
        for levels in range(61):
            self.assertEqual(count_nested(1, levels), 1)
            self.assertEqual(count_nested(1, levels, every=True), int(levels == 0))
            self.assertEqual(count_nested(2, levels), levels)
            self.assertEqual(count_nested(2, levels, every=True), int(levels == 1))

    def test_no_levels_and_one_level(self):
        for count in range(2, 13):
            self.assertEqual(count_nested(count, 0), 0)
            self.assertEqual(count_nested(count, 0, every=True), 0)
            self.assertEqual(count_nested(count, 1), 1)
            self.assertEqual(count_nested(count, 1, every=True), 1)

    def test_as_many_levels_as_joins(self):
        # With count - 1 levels each join has two parts: each time any two groups become one.
        for count in range(1, 13):
            wanted = math.prod(math.comb(groups, 2) for groups in range(2, count + 1))
            self.assertEqual(count_nested(count, count - 1, every=True), wanted)
            for levels in (count, count + 1, 60):
                self.assertEqual(count_nested(count, levels, every=True), 0)

    def test_two_levels_are_partitions(self):
        bell = [1]
        for count in range(1, 13):
            bell.append(sum(math.comb(count - 1, k) * bell[k] for k in range(count)))
            if count > 1:
                self.assertEqual(count_nested(count, 2), bell[count])

    def test_the_choice_of_the_levels_that_occur(self):
        for count in (1, 2, 5, 9, 12):
            full = [count_nested(count, many, every=True) for many in range(12)]
            for levels in (0, 1, 2, 7, 11, 30, 60):
                wanted = sum(math.comb(levels, many) * full[many] for many in range(12))
                self.assertEqual(count_nested(count, levels), wanted)

    def test_twelve_items_and_sixty_levels(self):
        with time_limit(5):
            number = count_nested(12, 60)
            self.assertIs(count_nested(12, 60, every=True), 0)
        self.assertIs(number.__class__, int)
        self.assertEqual(number, 7492887101549134437389351)

    def test_every_is_passed_by_name(self):
        self.assertRaises(TypeError, count_nested, 3, 2, True)
        self.assertIs(inspect.signature(count_nested).parameters["every"].default, False)


if __name__ == "__main__":
    unittest.main()
