"""Points [71] and [72], and point [3] for them."""

import random
import re
import unittest

from mergelevels.below import best_path, join_level
from mergelevels.boards import Board, NestedBoard
from mergelevels.consoles import Console
from mergelevels.tables import level_of
from mergelevels.texts import format_tree
from mergelevels.trees import tree_of
from tests.board_samples import BOTH, BoardChecks, OTHER_TABLES, NESTED_TABLES, tables_for, whole_state
from tests.samples import ANY_VALUES, EQUAL_TWELVE, NESTED_TWELVE, ONE, T, TOP, TWELVE, TWO, U

NUMBER = "(0|-?[1-9][0-9]{0,12})"
FORMS = ("change N N N", "drop N", "undo", "add N( N)*", "cut N", "top", "cut", "level N N", "join N N", "path N N",
         "groups", "tree")
COMMAND = re.compile("|".join(form.replace("N", NUMBER) for form in FORMS))


def plain_query(board, word, numbers):
    """The answer to a query, None if the word is an action."""
    table = board.table()
    if word == "top":
        return str(board.top)
    if word == "cut" and not numbers:
        return str(board.cut)
    if word == "level":
        return str(level_of(table, *numbers))
    if word == "join":
        return str(join_level(table, *numbers))
    if word == "path":
        return " ".join(map(str, best_path(table, *numbers)))
    if word == "groups":
        return " ".join(",".join(map(str, group)) for group in board(board.cut))
    return format_tree(tree_of(table)) if word == "tree" else None


def plain_result(board, line):
    """The result of a line, by a regular expression and the methods of the board."""
    if not isinstance(line, str) or not COMMAND.fullmatch(line):
        return "unknown"
    word, *rest = line.split(" ")
    numbers = [int(part) for part in rest]
    try:
        answer = plain_query(board, word, numbers)
        if answer is None:
            values = [tuple(numbers)] if word == "add" else numbers
            getattr(board, "cut_at" if word == "cut" else word)(*values)
    except (ValueError, LookupError) as error:
        return "error " + error.__class__.__name__
    return "done" if answer is None else answer


class TestExecute(unittest.TestCase, BoardChecks):
    def check(self, board, line):
        """The result and the board afterwards are those of a plain execution."""
        other = board.copy()
        wanted = plain_result(other, line)
        with self.subTest(line=line, table=board.table()):
            self.assertEqual(Console(board).execute(line), wanted)
            self.assertEqual((board.table(), board.actions(), board.cut), (other.table(), other.actions(), other.cut))
        return wanted

    def check_result(self, board, line, wanted):
        self.assertEqual(self.check(board, line), wanted)

    def test_example(self):
        self.check_result(Board(T), "path 0 3", "0 1 2 3")

    def test_queries(self):
        for kind in BOTH:
            for table in tables_for(kind):
                board = kind(table)
                board.cut_at(2)
                before = whole_state(board)
                for line in ("top", "cut", "groups", "tree"):
                    self.check(board, line)
                for one, other in [(0, 0), (0, len(table) - 1), (len(table) - 1, 0), (1, 2), (-1, 0), (0, 12)]:
                    for word in ("level", "join", "path"):
                        self.check(board, f"{word} {one} {other}")
                self.assertEqual(whole_state(board), before)

    def test_some_queries(self):
        board = Board(T)
        board.cut_at(3)
        for line, wanted in (
            ("top", "4"), ("cut", "3"), ("level 0 3", "6"), ("level 2 2", "0"), ("join 0 3", "4"), ("join 1 1", "0"),
            ("path 3 0", "3 2 1 0"), ("path 2 2", "2"), ("groups", "0 1,2,3"), ("tree", "(4 0 (3 (2 1 2) 3))"),
            ("level 4 0", "error NoSuchItem"), ("join 0 -1", "error NoSuchItem"), ("path 0 4", "error NoSuchItem"),
        ):
            self.check_result(board, line, wanted)
        self.check_result(Board(ONE), "tree", "0")
        self.check_result(Board(ONE), "top", "0")
        self.check_result(Board(ONE), "groups", "0")
        self.check_result(Board(TWO), "groups", "0 1")
        self.check_result(Board(EQUAL_TWELVE), "tree", "(3 0 1 2 3 4 5 6 7 8 9 10 11)")
        self.check_result(Board(TWELVE), "path 10 1", "10 8 6 4 2 0 11 9 7 5 3 1")
        board = Board(NESTED_TWELVE)
        board.cut_at(TOP)
        self.check_result(board, "groups", "0,1,2,3,4,5,6,7,8,9,10,11")
        self.check_result(board, "cut", "1000000000000")

    def test_commands(self):
        for kind in BOTH:
            board = kind(U)
            lines = "drop 0/add 9 9 9/change 0 1 2/cut 3/undo/undo/add 5 5 5/cut 0/drop 3"
            for line in lines.split("/"):
                self.check_result(board, line, "done")
            self.assertEqual(board.actions(), (("drop", 0), ("add", (5, 5, 5)), ("drop", 3)))
            self.assertEqual(board.cut, 0)
        board = Board.single()
        self.check_result(board, "add 7", "done")
        self.assertEqual(board.table(), ((), (7,)))

    def test_errors(self):
        for kind in BOTH:
            for line, name in (
                ("change 4 0 1", "NoSuchItem"), ("change 0 -1 1", "NoSuchItem"), ("change 1 1 5", "SameItem"),
                ("change 0 1 0", "InvalidLevel"), ("change 0 1 1000000000001", "InvalidLevel"),
                ("change 0 1 -5", "InvalidLevel"), ("drop 4", "NoSuchItem"), ("drop -1", "NoSuchItem"),
                ("drop 9999999999999", "NoSuchItem"), ("undo", "NothingToUndo"), ("add 1", "InvalidRow"),
                ("add 1 2 3 0", "InvalidRow"), ("add 4 4 4 4 4", "InvalidRow"), ("add 4 4 4 -4", "InvalidRow"),
                ("cut -1", "InvalidLevel"), ("cut 1000000000001", "InvalidLevel"),
                ("cut 9999999999999", "InvalidLevel"), ("cut -9999999999999", "InvalidLevel"),
            ):
                self.check_result(kind(U), line, "error " + name)
            self.check_result(kind(EQUAL_TWELVE), "add" + " 3" * 12, "error TooMany")
            self.check_result(kind(ONE), "drop 0", "error LastItem")
            board = kind(U)
            for _ in range(60):
                board.change(0, 1, 4)
            for line in ("change 0 1 4", "drop 9", "add 0"):
                self.check_result(board, line, "error TooManyActions")
            self.check_result(board, "cut 2", "done")

    def test_nested_boards(self):
        self.check_result(NestedBoard(U), "change 1 2 9", "error NotNested")
        self.check_result(NestedBoard(U), "add 4 4 4 1", "error NotNested")
        self.check_result(NestedBoard(U), "add 4 1 2 3", "done")
        self.check_result(Board(U), "change 1 2 9", "done")

    def test_numbers(self):
        for word in ("0", "1", "3", "-1", "1000000000000", "9999999999999", "-9999999999999", "12"):
            for line in (f"cut {word}", f"drop {word}", f"change 0 1 {word}", f"add 4 4 4 {word}", f"level 0 {word}"):
                self.assertNotEqual(self.check(Board(U), line), "unknown")
        for word in ("00", "01", "-0", "-00", "-01", "+1", "--1", "1-", "- 1", "-", "", "10000000000000", "1.0", "1_0",
                     "-10000000000000", "0x1", "1e1", "one", "True", "None", "(1)", "1,", "9" * 300, "\u0661", "\u00b2",
                     "1\u0661", "\uff11", "\u22121"):
            for line in (f"cut {word}", f"drop {word}", f"change 0 1 {word}", f"add 4 4 4 {word}", f"level 0 {word}"):
                self.check_result(Board(U), line, "unknown")

    def test_lines_that_are_nearly_commands(self):
        lines = ("change 0 1 4", "drop 0", "undo", "add 4 4 4 4", "cut 3", "cut", "top", "level 0 1", "join 0 1",
                 "path 0 1", "groups", "tree")
        for line in lines:
            self.assertNotEqual(self.check(Board(U), line), "unknown")
            wrong = [" " + line, line + " ", line.replace(" ", "  "), line.replace(" ", "\t"), line.upper(),
                     line + "\n", line.capitalize(), "\n" + line, line + "\r", line + "\t", line + " x", line + " -",
                     line[:-1] + "x", line + "\u00a0", line.replace(" ", "\u00a0"), line.replace(" ", ","),
                     line.replace(" ", "\n"),
                     line + ";", "do " + line, line + " 0 0 0 0 0 0 " + line, "(" + line + ")", "\u2003" + line]
            for other in [*wrong, line + " 1", line.rsplit(" ", 1)[0], line.split(" ")[0], line + " 1 2 3 4"]:
                self.check(Board(U), other)
                if other in wrong and other != line:
                    self.check_result(Board(U), other, "unknown")
        for line in ("change 0 1", "change 0 1 2 3", "drop", "drop 0 1", "undo 1", "add", "cut 1 2", "top 1", "level 0",
                     "level 0 1 2", "join 0", "path", "path 0", "path 0 1 2", "groups 3", "tree 0", "", " ", "  ", "\n",
                     "add ", "run", "log", "table", "copy", "cut_at 3", "nested", "help", "0", "-1", "state_at 0"):
            self.check_result(Board(U), line, "unknown")

    def test_values_that_are_no_texts(self):
        for kind in BOTH:
            board = kind(U)
            before = whole_state(board)
            for value in ANY_VALUES + (b"top", ["top"], ("top",), {"top": 1}):
                if value != "top":
                    self.assertEqual(Console(board).execute(value), "unknown")
            self.assertEqual(whole_state(board), before)

    def test_drawn_lines(self):
        source = random.Random(141)
        words = ["change", "drop", "undo", "add", "cut", "top", "level", "join", "path", "groups", "tree", "Top", ""]
        numbers = ["0", "1", "2", "3", "4", "-1", "5", "9", "00", "-0", "1000000000000", "x", ""]
        known = 0
        for number in range(120):
            board = source.choice(BOTH)(U)
            for _ in range(25):
                many = source.choice((0, 0, 1, 1, 2, 3, len(board.table())))
                line = " ".join([source.choice(words)] + [source.choice(numbers[:9]) for _ in range(many)])
                if source.randrange(8) == 0:
                    line += " " + source.choice(numbers)
                known += self.check(board, line) != "unknown"
        self.assertGreater(known, 500)

    def test_drawn_changes_of_lines(self):
        source = random.Random(142)
        lines = ["change 0 1 4", "drop 10", "undo", "add 4 4 4 4", "cut 3", "top", "level 0 1", "path 10 2", "groups"]
        for _ in range(1500):
            signs = list(source.choice(lines))
            for _ in range(source.randint(1, 2)):
                at = source.randrange(len(signs) + 1)
                signs[at:at + source.randint(0, 1)] = source.choice(["", *" 0123456789-+acdehlnoptu\n"])
            self.check(Board(U), "".join(signs))


class TestBoardOfAConsole(unittest.TestCase, BoardChecks):
    def test_that_very_board(self):
        for kind in BOTH:
            board = kind(U)
            console = Console(board)
            self.assertEqual(console.execute("drop 0"), "done")
            self.assertEqual(board.actions(), (("drop", 0),))
            board.drop(0)
            self.assertEqual(console.execute("tree"), "(3 0 1)")
            self.assertEqual(console.execute("undo"), "done")
            self.assertEqual(len(board), 1)

    def test_two_consoles(self):
        board = Board(T)
        one, other = Console(board), Console(board)
        self.assertEqual(one.execute("cut 3"), "done")
        self.assertEqual(other.execute("cut"), "3")
        self.assertEqual(other.execute("drop 0"), "done")
        self.assertEqual(one.execute("undo"), "done")
        self.assertEqual(other.execute("undo"), "error NothingToUndo")
        self.assertEqual(one.transcript(), (("cut 3", "done"), ("undo", "done")))
        wanted = (("cut", "3"), ("drop 0", "done"), ("undo", "error NothingToUndo"))
        self.assertEqual(other.transcript(), wanted)

    def test_within_on_step(self):
        for kind in BOTH:
            board = kind(U)
            console = Console(board)
            seen = []

            def on_step(given):
                for line in ("drop 0", "drop 99", "add 1", "change 0 0 0", "undo", "cut 3", "cut -1"):
                    self.assertEqual(console.execute(line), "error Busy")
                for line in ("top", "cut", "groups", "tree", "level 0 1", "join 0 9", "path 1 0", "drop", "no", None):
                    self.assertEqual(console.execute(line), plain_result(given, line))
                seen.append(console.execute("tree"))

            board.run([("drop", 0), ("drop", 0)], on_step=on_step)
            self.assertEqual(seen, ["(3 (2 0 1) 2)", "(3 0 1)"])
            self.assertEqual(len(board), 2)
            self.assertEqual(console.transcript()[-1], ("tree", "(3 0 1)"))
            self.assertEqual(console.execute("undo"), "done")

    def test_tables_of_all_kinds(self):
        for table in NESTED_TABLES + OTHER_TABLES:
            self.assertEqual(Console(Board(table)).execute("tree"), format_tree(tree_of(table)))


class TestTranscript(unittest.TestCase):
    def test_example(self):
        self.assertEqual(Console(Board(T)).transcript(), ())

    def test_the_last_twenty_lines(self):
        for kind in BOTH:
            console = Console(kind(U))
            rows = []
            for number in range(70):
                line = ("top", "drop 0", "undo", "nothing", f"cut {number}", "level 0 9", "", "add 1")[number % 8]
                result = console.execute(line)
                rows.append((line, result))
                self.assertEqual(console.transcript(), tuple(rows[-20:]))
                self.assertEqual(console.transcript(), tuple(rows[-20:]))
            self.assertEqual(len(console.transcript()), 20)

    def test_values_that_are_no_texts(self):
        for value in ANY_VALUES + (["top"], ("top",)):
            console = Console(Board(T))
            result = console.execute(value)
            line = value if isinstance(value, str) else None
            self.assertEqual(console.transcript(), ((line, result),))

    def test_later_changes_to_an_argument(self):
        value = ["top"]
        console = Console(Board(T))
        console.execute(value)
        value.append("cut")
        self.assertEqual(console.transcript(), ((None, "unknown"),))

    def test_kinds(self):
        console = Console(Board(T))
        console.execute("top")
        before = console.transcript()
        console.execute("cut")
        self.assertEqual(before, (("top", "4"),))
        self.assertIs(before.__class__, tuple)
        self.assertIs(before[0].__class__, tuple)

    def test_methods_of_the_class_itself(self):
        for name in ("__init__", "execute", "transcript"):
            self.assertIn(name, vars(Console))


if __name__ == "__main__":
    unittest.main()
