"""Statements of schemes: their limits, the names of pieces, and the ways through them."""

MOST_PLAYERS = 5
MOST_STATEMENTS = 60
MOST_BRANCHES = 200
MOST_PIECES = 40

MOST_LETTERS = 8
MOST_SUFFIXES = 6
MOST_SUFFIX_DIGITS = 2


def is_plain(text):
    """Return whether a string consists of 1 to 8 lowercase letters."""
    return text.isascii() and text.isalpha() and text.islower() and len(text) <= MOST_LETTERS


def is_suffix(text):
    """Return whether a string is a number from 1 to 99 without leading zeros."""
    if not text.isascii() or not text.isdigit() or text.startswith("0"):
        return False
    return len(text) <= MOST_SUFFIX_DIGITS


def is_piece(text):
    """Return whether a string is the name of a piece."""
    word, *suffixes = text.split(".")
    if not is_plain(word) or len(suffixes) > MOST_SUFFIXES:
        return False
    return all([is_suffix(suffix) for suffix in suffixes])


def ways_through(statements):
    """Return the number of branches of a list of statements."""
    ways = 1
    for statement in statements:
        ways *= ways_at(statement)
    return ways


def ways_at(statement):
    """Return the number of ways through one statement, with all that stands inside it."""
    word = statement[0]
    if word == "trim":
        return 2
    if word == "pick":
        return len(statement[3])
    if word == "ask":
        return ways_through(statement[5]) + ways_through(statement[6])
    return 1
