"""The forms of statements, and the limits of a list of statements."""

from graincourse.errors import InvalidStatement, TooLarge
from graincourse.ratios import is_fraction, is_number
from graincourse.statements import MOST_BRANCHES, MOST_PIECES, MOST_STATEMENTS, is_piece, is_plain, ways_through

FEWEST_CHOICES = 2
MOST_CHOICES = 4
MOST_SHARE_NUMBER = 99

LENGTHS = {"cut": 6, "trim": 6, "pick": 5, "join": 3, "give": 3, "drop": 2, "ask": 7, "use": 4}


def is_name(value):
    """Return whether a value is the name of a piece."""
    return isinstance(value, str) and is_piece(value)


def are_names(names):
    """Return whether some values are names of pieces, all different."""
    return all([is_name(name) for name in names]) and len(set(names)) == len(names)


def is_player(value, players):
    """Return whether a value is one of a number of players."""
    return is_number(value) and 1 <= value <= players


def is_share(value):
    """Return whether a value is a share."""
    if not isinstance(value, tuple) or not is_fraction(value):
        return False
    numerator, denominator = value
    return 0 <= numerator <= MOST_SHARE_NUMBER and denominator <= MOST_SHARE_NUMBER


def are_choices(value):
    """Return whether a value is a tuple of as many names as can be picked from or joined."""
    if not isinstance(value, tuple) or not are_names(value):
        return False
    return FEWEST_CHOICES <= len(value) <= MOST_CHOICES


def fits_cut(statement, players):
    """Return whether the values of a cut are right."""
    piece, player, share, first, second = statement[1:]
    if not is_share(share) or share[0] > share[1]:
        return False
    return is_name(piece) and is_player(player, players) and are_names((first, second))


def fits_trim(statement, players):
    """Return whether the values of a trim are right."""
    piece, like, player, first, second = statement[1:]
    return are_names((piece, like)) and is_player(player, players) and are_names((first, second))


def fits_pick(statement, players):
    """Return whether the values of a pick are right."""
    player, which, pieces, names = statement[1:]
    if not is_player(player, players) or which not in ("greatest", "least"):
        return False
    return are_choices(pieces) and are_choices(names) and len(pieces) == len(names)


def fits_join(statement):
    """Return whether the values of a join are right."""
    pieces, name = statement[1:]
    return are_choices(pieces) and is_name(name)


def fits_ask(statement, players):
    """Return whether the values of an ask are right, whatever stands inside it."""
    player, piece, share, like, yes, no = statement[1:]
    if not isinstance(yes, tuple) or not isinstance(no, tuple):
        return False
    return is_player(player, players) and is_name(piece) and is_share(share) and is_name(like)


def fits_use(statement, players):
    """Return whether the values of a use are right."""
    name, chosen, piece = statement[1:]
    if not isinstance(name, str) or not is_plain(name) or not isinstance(chosen, tuple):
        return False
    if len(chosen) == 0 or not all([is_player(player, players) for player in chosen]):
        return False
    return len(set(chosen)) == len(chosen) and is_name(piece)


def has_length(statement):
    """Return whether a value is a tuple that is as long as its word asks for."""
    if not isinstance(statement, tuple) or len(statement) == 0 or not isinstance(statement[0], str):
        return False
    return LENGTHS.get(statement[0]) == len(statement)


def has_form(statement, players):
    """Return whether a value is a statement of a scheme; a use is none."""
    if not has_length(statement):
        return False
    word = statement[0]
    if word == "cut":
        return fits_cut(statement, players)
    if word == "trim":
        return fits_trim(statement, players)
    if word == "pick":
        return fits_pick(statement, players)
    if word == "join":
        return fits_join(statement)
    if word == "ask":
        return fits_ask(statement, players)
    if word == "give":
        return is_name(statement[1]) and is_player(statement[2], players)
    return word == "drop" and is_name(statement[1])


def is_use(statement, players):
    """Return whether a value is the use of an outline."""
    return has_length(statement) and statement[0] == "use" and fits_use(statement, players)


def check_forms(players, statements, uses=False):
    """Raise the error of the first statement without its form, or of too many; uses may be allowed."""
    waiting = list(statements)[::-1]
    place = 0
    while waiting:
        # What stands behind the last possible statement is one too many, in whatever form.
        if place == MOST_STATEMENTS:
            raise TooLarge(MOST_STATEMENTS)
        statement = waiting.pop()
        if not has_form(statement, players) and not (uses and is_use(statement, players)):
            raise InvalidStatement(place)
        if statement[0] == "ask":
            inside = [*statement[5], *statement[6]]
            waiting.extend(inside[::-1])
        place += 1


def new_pieces(statements):
    """Return the number of pieces that statements make, on the side of each ask that makes more."""
    many = 0
    for statement in statements:
        word = statement[0]
        if word in ("cut", "trim"):
            many += 2
        elif word == "join":
            many += 1
        elif word == "ask":
            many += max(new_pieces(statement[5]), new_pieces(statement[6]))
    return many


def check_limits(statements):
    """Raise the error of too many branches or pieces, for statements that have their form."""
    if ways_through(statements) > MOST_BRANCHES:
        raise TooLarge(MOST_BRANCHES)
    # The whole is a piece, too.
    if new_pieces(statements) + 1 > MOST_PIECES:
        raise TooLarge(MOST_PIECES)
