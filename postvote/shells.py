"""Shells: benches that are worked by lines of text."""

from postvote.errors import (
    BadList, BadNumber, BadText, Busy, LastOne, NoGroup, NoPost, NothingToUndo, NoUnbeaten, TooMany, TooManyEdits,
)
from postvote.margins import margin
from postvote.texts import assignment_text, joined_numbers, parse_assignment, parse_number
from postvote.vectors import reserve_range

DIGITS = 13
UNKNOWN = "unknown command"
MARGIN = "margin "

# The words behind each command: N for a number, L for a list.
SHAPES = {
    "capacity": "NN", "count": "NN", "list": "NL", "group": "LN", "ungroup": "N", "post": "N", "unpost": "N",
    "undo": "", "verdict": "", "vector": "", "range": "N",
}


def parse_list(word):
    """The tuple of post numbers that a word stands for, or None."""
    if word == "-":
        return ()
    posts = [parse_number(part, DIGITS) for part in word.split(",")]
    return None if None in posts else tuple(posts)


def parse_words(words, shape):
    """The values of the words behind a command of this shape, or None if they do not fit."""
    if len(words) != len(shape):
        return None
    values = []
    for word, kind in zip(words, shape):
        values.append(parse_list(word) if kind == "L" else parse_number(word, DIGITS))
    return None if None in values else values


def list_text(posts):
    """Posts with a comma between two, or a hyphen for none."""
    return "-" if len(posts) == 0 else joined_numbers(posts)


def verdict_text(verdict):
    """The answer with a verdict."""
    if verdict[0] == "unbeaten":
        return f"unbeaten {assignment_text(verdict[1])}"
    return f"shortage {list_text(verdict[1])} {list_text(verdict[2])}"


def spaced_numbers(numbers):
    """The numbers with a space between two."""
    return " ".join([str(number) for number in numbers])


def edit_bench(bench, word, values):
    """Does the command that changes the bench. Returns the new version."""
    if word == "capacity":
        return bench.set_capacity(values[0], values[1])
    if word == "count":
        return bench.set_count(values[0], values[1])
    if word == "list":
        return bench.set_list(values[0], values[1])
    if word == "group":
        return bench.add_group(values[0], values[1])
    if word == "ungroup":
        return bench.remove_group(values[0])
    if word == "post":
        return bench.add_post(values[0])
    if word == "unpost":
        return bench.remove_post(values[0])
    return bench.undo()


def answer(bench, word, values):
    """The answer to a command other than margin, if it raises no error."""
    if word == "verdict":
        return verdict_text(bench.verdict())
    if word == "vector":
        return spaced_numbers(bench.vector())
    if word == "range":
        return spaced_numbers(reserve_range(bench.instance(), values[0]))
    return f"ok {edit_bench(bench, word, values)}"


def line_answer(bench, line):
    """The answer to a line, if it raises no error."""
    if line.startswith(MARGIN):
        instance = bench.instance()
        return str(margin(instance, parse_assignment(instance, line[len(MARGIN):])))
    words = line.split(" ")
    word = words[0]
    if word not in SHAPES:
        return UNKNOWN
    values = parse_words(words[1:], SHAPES[word])
    return UNKNOWN if values is None else answer(bench, word, values)


class Shell:
    """Commands that work on a bench."""

    def __init__(self, bench):
        self.bench = bench

    def execute(self, line):
        """The answer to any value."""
        if not isinstance(line, str):
            return UNKNOWN
        try:
            return line_answer(self.bench, line)
        except Busy:
            return "error Busy"
        except TooManyEdits:
            return "error TooManyEdits"
        except NothingToUndo:
            return "error NothingToUndo"
        except NoPost:
            return "error NoPost"
        except NoGroup:
            return "error NoGroup"
        except BadNumber:
            return "error BadNumber"
        except BadList:
            return "error BadList"
        except LastOne:
            return "error LastOne"
        except TooMany:
            return "error TooMany"
        except NoUnbeaten:
            return "error NoUnbeaten"
        except BadText:
            return "error BadText"
