"""Documents: the texts of whole shelves."""

from graincourse.errors import GrainError, InvalidDocument, MissingError
from graincourse.shelf import Shelf

TITLE = "graincourse"
BETWEEN = " = "


def document(shelf):
    """Return the document of a shelf."""
    rows = [f"{name}{BETWEEN}{shelf.outline_text(name)}" for name in shelf.in_order()]
    return "\n".join([TITLE, *rows, ""])


def put_row(shelf, row):
    """Define the outline of a row on a shelf; return whether the row is right."""
    name, between, text = row.partition(BETWEEN)
    if not between or name in shelf.listing():
        return False
    try:
        shelf.define_text(name, text)
    except (GrainError, MissingError):
        return False
    return True


def read_document(text):
    """Return the shelf of a document, without history."""
    *rows, rest = text.split("\n")
    if not rows or rows[0] != TITLE:
        raise InvalidDocument(0)
    shelf = Shelf()
    for number in range(1, len(rows)):
        if not put_row(shelf, rows[number]):
            raise InvalidDocument(number)
    # Behind the last line feed nothing may stand.
    if rest:
        raise InvalidDocument(len(rows))
    shelf.forget()
    return shelf
