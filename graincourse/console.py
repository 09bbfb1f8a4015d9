"""Consoles: lines of text that are carried out on a shelf."""

from graincourse.errors import GrainError, MissingError
from graincourse.ratios import ratio_text
from graincourse.shelf import Shelf
from graincourse.sure import lead, sure

DONE = "done"
UNKNOWN = "unknown"
MOST_DIGITS = 3

# How many words stand behind the first one; only the first of them is no number.
WORDS = {"drop": 1, "undo": 0, "redo": 0, "names": 0, "show": 1, "size": 1, "sure": 2, "keep": 2, "lead": 3}


def is_short_number(text):
    """Return whether a text is a number of one to three digits without a leading zero."""
    if not text.isascii() or not text.isdigit() or len(text) > MOST_DIGITS:
        return False
    return text == "0" or not text.startswith("0")


def is_known(words):
    """Return whether some words are a command or a question."""
    word, *rest = words
    if word == "define":
        return len(rest) > 1
    return WORDS.get(word) == len(rest) and all([is_short_number(text) for text in rest[1:]])


def change(shelf, words):
    """Carry out a command that changes a shelf; return whether the words are one."""
    word, *rest = words
    if word == "define":
        shelf.define_text(rest[0], " ".join(rest[1:]))
    elif word == "drop":
        shelf.drop(rest[0])
    elif word == "undo":
        shelf.undo()
    elif word == "redo":
        shelf.redo()
    else:
        return False
    return True


def value_of(scheme, word, players):
    """Return the value that is asked for by sure, keep or lead."""
    if word == "sure":
        return sure(scheme, players[0]).value
    if word == "keep":
        return sure(scheme, players[0], honest=True).value
    return lead(scheme, players[0], players[1]).value


def told(shelf, words):
    """Return the answer to a question about a shelf."""
    word, *rest = words
    if word == "names":
        return " ".join(shelf.listing()) or "none"
    if word == "show":
        return shelf.outline_text(rest[0])
    scheme = shelf.scheme(rest[0])
    if word == "size":
        return str(len(scheme))
    return ratio_text(value_of(scheme, word, [int(text) for text in rest[1:]]))


class Console:
    """A shelf, and the lines that were carried out on it with their answers."""

    def __init__(self, shelf=None):
        # A shelf without outlines is no reason for another one.
        self.shelf = Shelf() if shelf is None else shelf
        self.lines = []

    def __len__(self):
        return len(self.lines)

    def answer_to(self, line):
        """Carry out a line and return the answer."""
        words = line.split(" ")
        if "" in words or not is_known(words):
            return UNKNOWN
        try:
            return DONE if change(self.shelf, words) else told(self.shelf, words)
        except (GrainError, MissingError) as e:
            return f"error {e.word}"

    def execute(self, line):
        """Carry out a line, log it, and return the answer."""
        answer = self.answer_to(line)
        self.lines.append((line, answer))
        return answer

    def shelf_there(self):
        """Return the shelf."""
        return self.shelf

    def log(self):
        """Return the list of the pairs of a line and its answer."""
        return list(self.lines)
