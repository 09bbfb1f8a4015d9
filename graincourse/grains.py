"""Grains: ways through the pieces of a branch, with what each player thinks of what goes that way."""

from graincourse.ratios import ONE, ZERO, is_fraction, negative, order, plus, total
from graincourse.rows import row_value


def pieces_behind(link):
    """Return the list of the pieces to which a piece with this link goes on."""
    if link is None:
        return []
    if link[0] == "part":
        return list(link[2:])
    return [link[2]]


def first_way(links, left):
    """Return the way that always goes on to the first piece of which something is left."""
    way = [0]
    behind = pieces_behind(links[0])
    while behind:
        way.append([piece for piece in behind if left[piece] != ZERO][0])
        behind = pieces_behind(links[way[-1]])
    return tuple(way)


def split_flow(branch, point):
    """Return a list of pairs (way, amount) whose amounts add up to the worths of all pieces."""
    links = branch.links()
    left = [tuple(worth) for worth in point]
    flow = []
    while left[0] != ZERO:
        way = first_way(links, left)
        amount = left[0]
        for piece in way:
            if order(left[piece], amount) < 0:
                amount = left[piece]
        # At least one piece has nothing left then, so that no way comes again.
        for piece in way:
            left[piece] = plus(left[piece], negative(amount))
        flow.append((way, amount))
    return flow


def is_way(branch, way):
    """Return whether a tuple of integers is a way on a branch."""
    links = branch.links()
    empty = branch.empty_pieces()
    allowed = [0]
    for piece in way:
        if piece not in allowed or piece in empty:
            return False
        allowed = pieces_behind(links[piece])
    # Behind the end of a way nothing is allowed; in front of its first piece the whole is.
    return not allowed


def worths_of(branch, grains, player):
    """Return the list of the worths of all pieces to a player."""
    return [total([worths[player - 1] for way, worths in grains if piece in way]) for piece in range(branch.size)]


def keeps(branch, player, point):
    """Return whether a list of worths of all pieces satisfies the rows of a player."""
    equal = [row_value(row, point) for row in branch.equations(player)]
    above = [row_value(row, point) for row in branch.comparisons(player)]
    return all([value == ZERO for value in equal]) and all([order(value, ZERO) >= 0 for value in above])


def are_worths(worths, players):
    """Return whether some pairs of integers are fractions of at least 0, one for each player."""
    if len(worths) != players or not all([is_fraction(worth) for worth in worths]):
        return False
    return all([order(worth, ZERO) >= 0 for worth in worths])


def add_up(rows, players):
    """Return whether the worths of some rows, one for each player, add up to 1 for each player."""
    return all([total([row[index] for row in rows]) == ONE for index in range(players)])


def are_grains(branch, players, grains):
    """Return whether some pairs (way, worths) are grains with sums of 1 for each player."""
    if not all([is_way(branch, way) and are_worths(worths, players) for way, worths in grains]):
        return False
    return add_up([worths for way, worths in grains], players)
