"""Texts of integers, tables and trees."""

from mergelevels.bounds import ITEMS
from mergelevels.errors import ParseError
from mergelevels.tables import is_level

# No level has more digits.
DIGITS = 13


def number_of(word):
    """Returns the integer whose decimal text the word is, None if there is none of at most DIGITS digits."""
    digits = word.removeprefix("-")
    if not digits.isascii() or not digits.isdigit() or len(digits) > DIGITS:
        return None
    number = int(word)
    # This excludes leading zeros and -0.
    return number if str(number) == word else None


def joined(numbers):
    """Returns the texts of the integers, separated by single spaces."""
    return " ".join([str(number) for number in numbers])


def format_table(table):
    """Returns the text of a table, a line for each item."""
    lines = [f"items {len(table)}\n"]
    for row in table[1:]:
        lines.append(f"row {joined(row)}\n")
    return "".join(lines)


def format_tree(tree):
    """Returns the text of a tree on one line."""
    if isinstance(tree, int):
        return str(tree)
    level, *parts = tree
    words = [format_tree(part) for part in parts]
    return "(" + " ".join([str(level), *words]) + ")"


def count_in(line):
    """Returns the number of items that the first line of a table's text gives, None if it gives none."""
    words = line.split(" ")
    if len(words) != 2 or words[0] != "items":
        return None
    count = number_of(words[1])
    return count if count is not None and 1 <= count <= ITEMS else None


def row_in(line, size):
    """Returns the row of so many levels that a line gives, None if it gives none."""
    words = line.split(" ")
    levels = tuple([number_of(word) for word in words[1:]])
    if words[0] != "row" or len(levels) != size:
        return None
    return levels if all([is_level(level) for level in levels]) else None


def parse_lines(lines):
    """Returns (count, rows): the number of items, and the rows that the lines give."""
    count = count_in(lines[0])
    if count is None:
        raise ParseError(0)
    rows = [()]
    for at, line in enumerate(lines[1:], start=1):
        row = row_in(line, at)
        if at >= count or row is None:
            raise ParseError(at)
        rows.append(row)
    return count, rows


def parse_table(value):
    """Returns the table whose text the value is."""
    if not isinstance(value, str):
        raise ParseError(None)
    lines = value.split("\n")
    # What stands after the last line break is no line if it is empty, otherwise a line without its line break.
    rest = lines.pop()
    if rest:
        lines.append(rest)
    if not lines:
        raise ParseError(0)
    count, rows = parse_lines(lines)
    if rest or len(rows) < count:
        raise ParseError(len(lines))
    return tuple(rows)
