"""Points [69] and [70], and point [3] for them."""

import random
import re
import unittest

from mergelevels.errors import ParseError
from mergelevels.tables import find_fault
from mergelevels.texts import format_table, format_tree, parse_table
from tests.samples import (
    ANY_VALUES, EQUAL_TWELVE, NESTED_TWELVE, ONE, T, TOP, TWELVE, TWO, U,
    ErrorChecks, KindChecks, drawn_nested, large_tables, random_tables, small_tables,
)

TABLES = (
    small_tables() + large_tables() + [ONE, TWO, T, U] + random_tables(91, 40, range(1, 13), TOP)
    + drawn_nested(92, 20, range(1, 13), 9)
)
TEXT = "items 4\nrow 4\nrow 6 2\nrow 6 6 3\n"
SIGNS = " \n0123456789-+_.,itemsrow()'A~"


def plain_row(line):
    """The levels of a line, None if it is not a line of a row at all."""
    if not re.fullmatch(r"row( (0|[1-9][0-9]*))*", line, re.ASCII):
        return None
    return tuple(int(word) for word in line.split(" ")[1:])


def plain_parse(text):
    """The table of a text, or the index of its first wrong line, by regular expressions."""
    parts = text.split("\n")
    lines = parts if parts[-1] else parts[:-1]
    if not lines or not re.fullmatch("items ([1-9]|1[0-2])", lines[0]):
        return 0
    count = int(lines[0].split(" ")[1])
    rows = [()]
    for index in range(1, len(lines)):
        row = plain_row(lines[index])
        if index >= count or row is None or len(row) != index or not all(1 <= level <= TOP for level in row):
            return index
        rows.append(row)
    if len(lines) < count or not text.endswith("\n"):
        return len(lines)
    return tuple(rows)


class TestFormatTable(unittest.TestCase):
    def test_example(self):
        self.assertEqual(format_table(T), TEXT)

    def test_one_two_and_twelve_items(self):
        self.assertEqual(format_table(ONE), "items 1\n")
        self.assertEqual(format_table(TWO), "items 2\nrow 5\n")
        self.assertEqual(format_table(((), (TOP,))), "items 2\nrow 1000000000000\n")
        lines = ["items 12"] + ["row" + " 3" * i for i in range(1, 12)]
        self.assertEqual(format_table(EQUAL_TWELVE), "".join(line + "\n" for line in lines))

    def test_lines(self):
        for table in TABLES:
            lines = [f"items {len(table)}"] + [" ".join(["row", *map(str, row)]) for row in table[1:]]
            self.assertEqual(format_table(table), "".join(line + "\n" for line in lines))


class TestFormatTree(unittest.TestCase):
    def test_example(self):
        self.assertEqual(format_tree((4, 0, (3, (2, 1, 2), 3))), "(4 0 (3 (2 1 2) 3))")

    def test_items(self):
        for item in range(12):
            self.assertEqual(format_tree(item), str(item))

    def test_some_trees(self):
        self.assertEqual(format_tree((1, 0, 1)), "(1 0 1)")
        self.assertEqual(format_tree((TOP, 0, 1, 2)), "(1000000000000 0 1 2)")
        self.assertEqual(format_tree((10, (1, 0, 10), (3, 1, 2))), "(10 (1 0 10) (3 1 2))")
        self.assertEqual(format_tree((3, *range(12))), "(3 0 1 2 3 4 5 6 7 8 9 10 11)")

    def test_a_deep_tree(self):
        tree, text = 0, "0"
        for item in range(1, 12):
            tree, text = (item * 10, tree, item), f"({item * 10} {text} {item})"
        self.assertEqual(format_tree(tree), text)


class TestParseTable(unittest.TestCase, KindChecks, ErrorChecks):
    def check(self, text):
        """The result is that of the plain parser."""
        wanted = plain_parse(text)
        with self.subTest(text=text):
            if isinstance(wanted, tuple):
                self.assertEqual(parse_table(text), wanted)
            else:
                self.assert_error(ParseError, {"place": wanted}, parse_table, text)
        return wanted

    def check_wrong(self, place, text):
        self.assertEqual(self.check(text), place)

    def test_example(self):
        self.check_wrong(2, "items 2\nrow 5")

    def test_there_and_back(self):
        for table in TABLES:
            self.assertEqual(parse_table(format_table(table)), table)
            self.assert_tuples(parse_table(format_table(table)))
            self.assertEqual(self.check(format_table(table)), table)

    def test_values_that_are_no_texts(self):
        for value in ANY_VALUES:
            if not isinstance(value, str):
                self.assert_error(ParseError, {"place": None}, parse_table, value)
        for value in ([TEXT], (TEXT,), {"text": TEXT}, TEXT.split("\n"), TEXT.encode()):
            self.assert_error(ParseError, {"place": None}, parse_table, value)

    def test_other_texts(self):
        for value in ANY_VALUES:
            if isinstance(value, str):
                self.check(value)
        self.check_wrong(0, "")
        self.check_wrong(0, "\n")
        self.check_wrong(0, "\n\n")
        self.check_wrong(0, " ")
        self.check_wrong(0, "table")
        self.check_wrong(0, "row 4\n")

    def test_counts(self):
        for count in range(-1, 20):
            rows = [" ".join(["row"] + ["7"] * i) + "\n" for i in range(1, count)]
            text = "".join([f"items {count}\n"] + rows)
            if 1 <= count <= 12:
                self.assertEqual(self.check(text), tuple((7,) * i for i in range(count)))
            else:
                self.check_wrong(0, text)
        for word in ("", " 1", "01", "+1", "-1", "1 ", "1.", "1_0", "0", "00", "one", "1 1", "1" * 2000, "-0", "13"):
            self.check_wrong(0, f"items {word}\n")
        for line in ("items", "items\t1", "Items 1", "item 1", " items 1", "items  1", "items1", "1", "items 1 row"):
            self.check_wrong(0, line + "\n")

    def test_levels(self):
        for word in ("1", "1000000000000", "999999999999", "10"):
            self.assertEqual(self.check(f"items 2\nrow {word}\n"), ((), (int(word),)))
        wrong = ("0", "1000000000001", "9999999999999", "10000000000000", "9" * 30, "-1", "-0", "+1", "01", "00", "1_0")
        wrong += ("1.0", "1e3", "", " 5", "5 ", "5 5", "a", "0x5", "5,", "(5)", "9" * 1900)
        for word in wrong:
            self.check_wrong(1, f"items 2\nrow {word}\n")
            self.check_wrong(2, f"items 3\nrow 1\nrow 1 {word}\n")
            self.check_wrong(1, f"items 3\nrow {word}\nrow 1 {word}\n")
        for line in ("row", "row5", "row  5", " row 5", "row 5 ", "Row 5", "rows 5", "5", "", "items 2", "row 5 5"):
            self.check_wrong(1, f"items 2\n{line}\n")

    def test_other_digits(self):
        for word in ("\u0665", "\u00b2", "\uff15", "5\u0665"):
            self.assert_error(ParseError, {"place": 1}, parse_table, f"items 2\nrow {word}\n")
            self.assert_error(ParseError, {"place": 0}, parse_table, f"items {word}\n")

    def test_other_line_breaks(self):
        for sign in ("\r\n", "\r", "\v", "\f", "\x1c", "\x85", "\u2028"):
            self.assert_error(ParseError, {"place": 0}, parse_table, TEXT.replace("\n", sign))
            self.assert_error(ParseError, {"place": 2}, parse_table, TEXT.replace(" 2\n", f" 2{sign}"))
            self.assert_error(ParseError, {"place": 3}, parse_table, TEXT[:-1] + sign)
            self.assert_error(ParseError, {"place": 4}, parse_table, TEXT + sign)

    def test_last_line_break(self):
        self.check_wrong(1, "items 1")
        self.check_wrong(1, "items 4")
        self.check_wrong(4, TEXT[:-1])
        self.check_wrong(4, TEXT + "\n")
        self.check_wrong(4, TEXT + "\n\n")
        self.check_wrong(4, TEXT + " ")
        self.check_wrong(4, TEXT + "row 1 1 1 1\n")
        self.check_wrong(4, TEXT + "row 1 1 1 1")
        self.check_wrong(1, "items 1\n\n")
        self.check_wrong(1, "items 1\nrow 1\n")
        self.check_wrong(1, "items 1\nrow\n")

    def test_missing_lines(self):
        for table in (T, U, TWELVE, EQUAL_TWELVE, NESTED_TWELVE):
            lines = format_table(table).splitlines(keepends=True)
            for many in range(len(lines)):
                self.check_wrong(many, "".join(lines[:many]))
                if many:
                    self.check_wrong(many, "".join(lines[:many])[:-1])

    def test_one_line_changed_added_or_removed(self):
        lines = TEXT.splitlines(keepends=True)
        others = ["\n", " \n", "row\n", "row 4\n", "row 6 2\n", "row 6 6 3\n", "row 6 0 3\n", "items 4\n", "x"]
        for at in range(len(lines) + 1):
            for other in others:
                self.check("".join(lines[:at] + [other] + lines[at:]))
                self.check("".join(lines[:at] + [other] + lines[at + 1:]))
            self.check("".join(lines[:at] + lines[at + 1:]))

    def test_one_sign_inserted_removed_or_replaced(self):
        right = 0
        for at in range(len(TEXT) + 1):
            self.check(TEXT[:at] + TEXT[at + 1:])
            for sign in SIGNS:
                right += isinstance(self.check(TEXT[:at] + sign + TEXT[at:]), tuple)
                right += isinstance(self.check(TEXT[:at] + sign + TEXT[at + 1:]), tuple)
        self.assertGreater(right, 50)

    def test_drawn_changes(self):
        source = random.Random(93)
        for _ in range(1500):
            signs = list(format_table(source.choice(TABLES)))
            for _ in range(source.randint(1, 3)):
                at = source.randrange(len(signs) + 1)
                signs[at:at + source.randint(0, 1)] = source.choice(["", *SIGNS])
            self.check("".join(signs))

    def test_what_is_parsed_is_a_table(self):
        for table in TABLES:
            self.assertIs(find_fault(parse_table(format_table(table))), None)


if __name__ == "__main__":
    unittest.main()
