"""A console: commands about a board, as texts."""

from mergelevels.below import best_path, join_level
from mergelevels.errors import (
    Busy, InvalidLevel, InvalidRow, LastItem, NoSuchItem, NotNested, NothingToUndo, SameItem, TooMany, TooManyActions,
)
from mergelevels.tables import level_of
from mergelevels.texts import format_tree, joined, number_of
from mergelevels.trees import tree_of

# How many integers can follow each word; add takes any number of them, but at least one.
SIZES = {
    "change": (3,), "drop": (1,), "undo": (0,), "cut": (0, 1), "top": (0,), "level": (2,), "join": (2,),
    "path": (2,), "groups": (0,), "tree": (0,),
}
ACTIONS = ("change", "drop", "undo", "add")
# How many lines the transcript shows.
LINES = 20


def has_size(word, count):
    """Whether so many integers can follow a word."""
    if word == "add":
        return count >= 1
    return count in SIZES.get(word, ())


def act(board, word, numbers):
    """Performs a command that changes the board."""
    if word == "change":
        board.change(*numbers)
    elif word == "drop":
        board.drop(*numbers)
    elif word == "add":
        board.add(tuple(numbers))
    elif word == "undo":
        board.undo()
    else:
        board.cut_at(*numbers)


def groups_text(groups):
    """Returns the text of some groups."""
    return " ".join([",".join([str(item) for item in group]) for group in groups])


def answer_about(table, word, one, other):
    """Returns the text of the answer to a question about two items."""
    if word == "level":
        return str(level_of(table, one, other))
    if word == "join":
        return str(join_level(table, one, other))
    return joined(best_path(table, one, other))


def answer(board, word, numbers):
    """Returns the text of the answer to a question about the board."""
    if word == "top":
        return str(board.top)
    if word == "cut":
        return str(board.cut)
    if word == "groups":
        return groups_text(board.groups)
    table = board.table()
    if word == "tree":
        return format_tree(tree_of(table))
    return answer_about(table, word, *numbers)


def result_of(board, word, numbers):
    """Returns the result of a command that raises no error."""
    # The word cut is a question by itself, and a command with an integer.
    if word in ACTIONS or (word == "cut" and numbers):
        act(board, word, numbers)
        return "done"
    return answer(board, word, numbers)


def named_result(board, word, numbers):
    """Returns the result of a command, or the name of its error."""
    # These are all errors that a command can raise; the name of a class has to be written out here.
    try:
        return result_of(board, word, numbers)
    except Busy:
        return "error Busy"
    except TooManyActions:
        return "error TooManyActions"
    except NoSuchItem:
        return "error NoSuchItem"
    except SameItem:
        return "error SameItem"
    except InvalidLevel:
        return "error InvalidLevel"
    except InvalidRow:
        return "error InvalidRow"
    except TooMany:
        return "error TooMany"
    except LastItem:
        return "error LastItem"
    except NothingToUndo:
        return "error NothingToUndo"
    except NotNested:
        return "error NotNested"


def result_for(board, line):
    """Returns the result of a line, which may be any value."""
    if not isinstance(line, str):
        return "unknown"
    words = line.split(" ")
    numbers = [number_of(word) for word in words[1:]]
    if None in numbers or not has_size(words[0], len(numbers)):
        return "unknown"
    return named_result(board, words[0], numbers)


class Console:
    """Executes commands on a board, and remembers the last ones."""

    def __init__(self, board):
        self.board = board
        self.told = []

    def execute(self, line):
        """Executes a command and returns its result."""
        result = result_for(self.board, line)
        self.told.append((line if isinstance(line, str) else None, result))
        self.told = self.told[-LINES:]
        return result

    def transcript(self):
        """Returns the last pairs of a line and its result."""
        return tuple(self.told)
