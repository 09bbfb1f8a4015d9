"""Shelves: outlines by name, with commands that can be undone."""

from graincourse.errors import InvalidCommand, NothingLeft, UnknownName
from graincourse.stocks import Stock, users_of, with_outline, without_outline
from graincourse.texts import read_text, text_of

MOST_NAMES = 8

# How many items a command has, with its word.
ITEMS = {"define": 4, "drop": 2}


def is_command(value):
    """Return whether a value has the form of a command."""
    if not isinstance(value, tuple) or len(value) == 0 or not isinstance(value[0], str):
        return False
    return ITEMS.get(value[0]) == len(value)


def carried_out(stock, command):
    """Return the stock to which a command leads."""
    word, name, *rest = command
    if word == "define":
        players, statements = rest
        return with_outline(stock, name, players, statements)
    return without_outline(stock, name)


class Shelf:
    """Outlines by name, and the steps by which they came to be."""

    NAMES = 8

    def __init__(self):
        self.stock = Stock({})
        # The stocks in front of each step that can be undone, and behind each that can be redone, the next one last.
        self.past = []
        self.future = []

    def __len__(self):
        return len(self.stock.outlines)

    def __eq__(self, other):
        return isinstance(other, Shelf) and self.stock.outlines == other.stock.outlines

    def take_step(self, stock):
        """Make the step that leads to a stock."""
        self.past.append(self.stock)
        self.stock = stock
        self.future = []

    def define(self, name, players, statements):
        """Add or replace an outline."""
        self.take_step(with_outline(self.stock, name, players, statements))

    def drop(self, name):
        """Remove an outline."""
        self.take_step(without_outline(self.stock, name))

    def define_text(self, name, text):
        """Add or replace the outline that a text writes."""
        players, statements = read_text(text)
        self.define(name, players, statements)

    def batch(self, *commands):
        """Carry out any number of commands as one step, all of them or none."""
        for index, command in enumerate(commands):
            if not is_command(command):
                raise InvalidCommand(index)
        stock = self.stock
        for command in commands:
            stock = carried_out(stock, command)
        if commands:
            self.take_step(stock)

    def preview(self, *commands):
        """Return the list of the names in order, as it would be behind the commands."""
        twin = self.clone()
        for command in commands:
            twin.batch(command)
        return list(twin.stock.schemes)

    def undo(self):
        """Revert the last step."""
        if not self.past:
            raise NothingLeft()
        self.future.append(self.stock)
        self.stock = self.past.pop()

    def redo(self):
        """Repeat the step that was reverted last."""
        if not self.future:
            raise NothingLeft()
        self.past.append(self.stock)
        self.stock = self.future.pop()

    def forget(self):
        """Let no step be undone or redone."""
        self.past = []
        self.future = []

    def history(self):
        """Return how many steps can be undone, and how many can be redone."""
        return (len(self.past), len(self.future))

    def clone(self):
        """Return an independent shelf with the same outlines and history."""
        twin = Shelf()
        twin.stock = self.stock
        twin.past = list(self.past)
        twin.future = list(self.future)
        return twin

    def listing(self):
        """Return the ascending list of the names."""
        return sorted(self.stock.outlines)

    def in_order(self):
        """Go through the names, each behind those that it uses."""
        yield from list(self.stock.schemes)

    def outline(self, name):
        """Return the pair of the number of players and the tuple of the statements of an outline."""
        if name not in self.stock.outlines:
            raise UnknownName(name)
        return self.stock.outlines[name]

    def outline_text(self, name):
        """Return the text of an outline."""
        players, statements = self.outline(name)
        return text_of(players, statements)

    def scheme(self, name):
        """Return the scheme to which an outline expands."""
        if name not in self.stock.schemes:
            raise UnknownName(name)
        return self.stock.schemes[name]

    def users(self, name):
        """Return the ascending list of the names of outlines that use an outline directly."""
        return users_of(self.stock, name)
