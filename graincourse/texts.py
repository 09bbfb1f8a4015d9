"""The texts of schemes: their lines, and how they are read."""

from graincourse.errors import InvalidFraction, ParseError
from graincourse.forms import has_form, is_use
from graincourse.ratios import parse_ratio, ratio_text
from graincourse.statements import MOST_PLAYERS

SEPARATOR = "; "

# How many values the line of a statement has; a word stands in front of each.
VALUES = {"cut": 4, "trim": 4, "pick": 4, "join": 2, "give": 2, "drop": 1, "ask": 4, "use": 3}


def listing_of(names):
    """Return the text of a list of names or numbers."""
    return ", ".join([str(name) for name in names])


def line_of(statement):
    """Return the line of a statement; of an ask, its first line."""
    word, *rest = statement
    if word == "cut":
        piece, player, share, first, second = rest
        return f"cut {piece} by {player} at {ratio_text(share)} into {first}, {second}"
    if word == "trim":
        piece, like, player, first, second = rest
        return f"trim {piece} to {like} by {player} into {first}, {second}"
    if word == "pick":
        player, which, pieces, names = rest
        return f"pick {which} of {listing_of(pieces)} by {player} as {listing_of(names)}"
    if word == "join":
        pieces, name = rest
        return f"join {listing_of(pieces)} as {name}"
    if word == "give":
        piece, player = rest
        return f"give {piece} to {player}"
    if word == "drop":
        return f"drop {rest[0]}"
    if word == "ask":
        player, piece, share, like = rest[:4]
        return f"ask {player} if {piece} is {ratio_text(share)} of {like}"
    name, players, piece = rest
    return f"use {name} for {listing_of(players)} on {piece}"


def lines_of(statements):
    """Return the list of all lines of statements, with those inside asks."""
    lines = []
    for statement in statements:
        lines.append(line_of(statement))
        if statement[0] == "ask":
            lines.extend(lines_of(statement[5]))
            lines.append("else")
            lines.extend(lines_of(statement[6]))
            lines.append("end")
    return lines


def text_of(players, statements):
    """Return the text of a number of players and a list of statements."""
    return SEPARATOR.join([f"players {players}", *lines_of(statements)])


def player_of(text):
    """Return the number of a player that a text writes, 0 for any other text."""
    return int(text) if len(text) == 1 and text.isascii() and text.isdigit() else 0


def share_of(text):
    """Return the fraction that a text writes, None for any other text."""
    try:
        return parse_ratio(text)
    except InvalidFraction:
        return None


def names_of(text):
    """Return the tuple of the names that a text lists."""
    return tuple(text.split(", "))


def fields_of(line):
    """Return the words of a line, where a list with its commas is one word."""
    fields = []
    for word in line.split(" "):
        if fields and fields[-1].endswith(","):
            fields[-1] = f"{fields[-1]} {word}"
        else:
            fields.append(word)
    return fields


def statement_of(word, texts):
    """Return what a statement would be with these texts as its values, right or wrong."""
    if word == "cut":
        piece, player, share, parts = texts
        names = names_of(parts)
        return ("cut", piece, player_of(player), share_of(share), *names)
    if word == "trim":
        piece, like, player, parts = texts
        names = names_of(parts)
        return ("trim", piece, like, player_of(player), *names)
    if word == "pick":
        which, pieces, player, names = texts
        return ("pick", player_of(player), which, names_of(pieces), names_of(names))
    if word == "join":
        pieces, name = texts
        return ("join", names_of(pieces), name)
    if word == "give":
        piece, player = texts
        return ("give", piece, player_of(player))
    if word == "drop":
        return ("drop", texts[0])
    if word == "ask":
        player, piece, share, like = texts
        return ("ask", player_of(player), piece, share_of(share), like, (), ())
    name, chosen, piece = texts
    return ("use", name, tuple([player_of(text) for text in names_of(chosen)]), piece)


def read_line(line, players):
    """Return the statement of a line, an ask without what stands inside it, or None for a wrong line."""
    fields = fields_of(line)
    word = fields[0]
    if word not in VALUES or len(fields) != 2 * VALUES[word]:
        return None
    statement = statement_of(word, fields[1::2])
    if not has_form(statement, players) and not is_use(statement, players):
        return None
    # Each statement has one line: this refuses other words between the values.
    return statement if line_of(statement) == line else None


def read_players(line):
    """Return the number of players of the first line of a text, 0 for a wrong line."""
    for players in range(1, MOST_PLAYERS + 1):
        if line == f"players {players}":
            return players
    return 0


def read_text(text):
    """Return the number of players and the list of the statements of a text, which may contain uses."""
    lines = text.split(SEPARATOR)
    players = read_players(lines[0])
    if players == 0:
        raise ParseError(0)
    # The last part is being read; asks has those that it stands in, each with
    # its statements for yes, None while these are still being read.
    parts = [[]]
    asks = []
    for place in range(1, len(lines)):
        line = lines[place]
        if line == "else" and asks and asks[-1][1] is None:
            asks[-1] = (asks[-1][0], tuple(parts.pop()))
            parts.append([])
        elif line == "end" and asks and asks[-1][1] is not None:
            ask, yes = asks.pop()
            no = tuple(parts.pop())
            parts[-1].append((*ask[:5], yes, no))
        else:
            statement = read_line(line, players)
            if statement is None:
                raise ParseError(place)
            if statement[0] == "ask":
                asks.append((statement, None))
                parts.append([])
            else:
                parts[-1].append(statement)
    if asks:
        raise ParseError(len(lines))
    return players, parts[0]
