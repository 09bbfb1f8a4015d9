"""Schemes: players and statements by which a whole is divided."""

from graincourse.errors import UnknownPlayer
from graincourse.forms import check_forms, check_limits
from graincourse.statements import MOST_PLAYERS
from graincourse.texts import read_text, text_of
from graincourse.walks import all_branches


class Scheme:
    """A number of players and a list of statements that can be carried out on each branch."""

    PLAYERS = 5
    STATEMENTS = 60
    BRANCHES = 200
    PIECES = 40

    def __init__(self, players, statements):
        if not 1 <= players <= MOST_PLAYERS:
            raise UnknownPlayer(players)
        check_forms(players, statements)
        check_limits(statements)
        self.players = players
        self.listed = tuple(statements)
        self.walked = all_branches(self.listed)

    @classmethod
    def read(cls, text):
        """Return the scheme of a text."""
        players, statements = read_text(text)
        return cls(players, statements)

    def __len__(self):
        return len(self.walked)

    def __eq__(self, other):
        return isinstance(other, Scheme) and self.players == other.players and self.listed == other.listed

    def __repr__(self):
        return f"Scheme({self.players} players, {len(self.walked)} branches)"

    def statements(self):
        """Return the list of the statements."""
        return list(self.listed)

    def text(self):
        """Return the text of the scheme."""
        return text_of(self.players, self.listed)

    def branches(self):
        """Go through the branches in order."""
        yield from self.walked


def own_weights(scheme, player):
    """Return the tuple of the weights of a player's share."""
    return tuple([int(holder == player) for holder in range(scheme.players + 1)])


def lead_weights(scheme, one, other):
    """Return the tuple of the weights of the share of one player less that of another one."""
    return tuple([int(holder == one) - int(holder == other) for holder in range(scheme.players + 1)])
