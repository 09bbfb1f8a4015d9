"""Outlines: statements that may use other outlines, and how they expand.

An outline is a pair (players, statements).
"""

from graincourse.errors import GrainError, InvalidStatement, MissingError, Unfit, UnknownPlayer
from graincourse.forms import check_forms
from graincourse.schemes import Scheme
from graincourse.statements import MOST_PLAYERS
from graincourse.walks import new_names, used_names


def all_statements(statements):
    """Return the list of all statements, with those inside asks, in the order of their numbers."""
    listed = []
    for statement in statements:
        listed.append(statement)
        if statement[0] == "ask":
            listed.extend(all_statements(statement[5]))
            listed.extend(all_statements(statement[6]))
    return listed


def names_in(statement):
    """Return the list of the names of pieces in a statement, without those in other statements inside it."""
    if statement[0] == "use":
        return [statement[3]]
    return [*used_names(statement), *new_names(statement)]


def check_outline(players, statements):
    """Raise the error of the first thing that is wrong with an outline by itself."""
    if not 1 <= players <= MOST_PLAYERS:
        raise UnknownPlayer(players)
    check_forms(players, statements, uses=True)
    for place, statement in enumerate(all_statements(statements)):
        if any(["." in name for name in names_in(statement)]):
            raise InvalidStatement(place)


def outlines_used(outline):
    """Return the ascending list of the names of the outlines that an outline uses directly."""
    uses = [statement for statement in all_statements(outline[1]) if statement[0] == "use"]
    return sorted(set([use[1] for use in uses]))


def placed_name(name, piece, number):
    """Return what the name of a piece becomes where its outline is used."""
    return piece if name == "whole" else f"{name}.{number}"


def placed_names(names, piece, number):
    """Return the tuple of what names of pieces become where their outline is used."""
    return tuple([placed_name(name, piece, number) for name in names])


def placed(statement, players, piece, number):
    """Return what a statement becomes where its outline is used for some players, on a piece, by a numbered use."""
    word, *rest = statement
    if word == "cut":
        cut, player, share, first, second = rest
        one, *parts = placed_names((cut, first, second), piece, number)
        return (word, one, players[player - 1], share, *parts)
    if word == "trim":
        trimmed, like, player, first, second = rest
        one, other, *parts = placed_names((trimmed, like, first, second), piece, number)
        return (word, one, other, players[player - 1], *parts)
    if word == "pick":
        player, which, pieces, names = rest
        ends = [placed_names(listed, piece, number) for listed in (pieces, names)]
        return (word, players[player - 1], which, *ends)
    if word == "join":
        pieces, name = rest
        return (word, placed_names(pieces, piece, number), placed_name(name, piece, number))
    if word == "ask":
        player, asked, share, like, *sides = rest
        one, other = placed_names((asked, like), piece, number)
        return (word, players[player - 1], one, share, other,
                *[tuple(all_placed(side, players, piece, number)) for side in sides])
    one = placed_name(rest[0], piece, number)
    return (word, one, players[rest[1] - 1]) if word == "give" else (word, one)


def all_placed(statements, players, piece, number):
    """Return the list of what statements become where their outline is used."""
    return [placed(statement, players, piece, number) for statement in statements]


def expanded(statements, schemes, number):
    """Return the list of the statements with their uses expanded, and the number of the next use."""
    listed = []
    for statement in statements:
        if statement[0] == "use":
            name, players, piece = statement[1:]
            listed.extend(all_placed(schemes[name].statements(), players, piece, number))
            number += 1
        elif statement[0] == "ask":
            yes, number = expanded(statement[5], schemes, number)
            no, number = expanded(statement[6], schemes, number)
            listed.append((*statement[:5], tuple(yes), tuple(no)))
        else:
            listed.append(statement)
    return listed, number


def fit_together(outline, schemes):
    """Return whether an outline uses each other one with the number of its players."""
    uses = [statement for statement in all_statements(outline[1]) if statement[0] == "use"]
    return all([len(use[2]) == schemes[use[1]].players for use in uses])


def scheme_of(name, outline, schemes):
    """Return the scheme to which an outline expands, with those of the outlines that it uses."""
    if not fit_together(outline, schemes):
        raise Unfit(name)
    players, statements = outline
    # The first use has the number 1.
    listed = expanded(statements, schemes, 1)[0]
    try:
        return Scheme(players, listed)
    except (GrainError, MissingError):
        raise Unfit(name) from None
