"""What the document says of sheets, ways and grains, written down once more with fractions of Python.

The rows come from the followers of `model`, not from the branches of the program.
"""

from fractions import Fraction


def whole_totals(follower, player, numbers, known=()):
    """The totals of a sheet, whose numbers are listed, for each piece."""
    rows = [*follower.equations(player), *known_rows(follower, known), *follower.comparisons(player)]
    pairs = list(zip(rows, numbers, strict=True))
    return [sum((row[piece] * Fraction(*number) for row, number in pairs), Fraction(0))
            for piece in range(follower.size)]


def known_rows(follower, known):
    rows = []
    for piece, (above, below) in known:
        row = [0] * follower.size
        row[piece] += below
        row[0] -= above
        rows.append(tuple(row))
    return rows


def counts_fit(follower, player, sheet, known=()):
    many = len(follower.equations(player)) + len(known)
    if [len(sheet.equal), len(sheet.above)] != [many, len(follower.comparisons(player))]:
        return False
    return all(Fraction(*number) >= 0 for number in sheet.above)


def bound_holds(follower, player, weights, sheet, known=()):
    if not counts_fit(follower, player, sheet, known):
        return False
    limits = [0 if holder is None else weights[holder] for holder in follower.holders()]
    limits[0] -= Fraction(*sheet.value)
    totals = whole_totals(follower, player, [*sheet.equal, *sheet.above], known)
    return all(total <= limit for total, limit in zip(totals, limits))


def shut_holds(follower, sheet, known=()):
    if not counts_fit(follower, sheet.player, sheet, known):
        return False
    totals = whole_totals(follower, sheet.player, [*sheet.equal, *sheet.above], known)
    return totals[0] <= -1 and all(total <= 0 for total in totals[1:])


def all_ways(follower):
    """All ways on a branch, found from the whole on."""
    links = follower.all_links()
    ended, begun = [], [(0,)]
    while begun:
        way = begun.pop()
        link = links[way[-1]]
        if link is None:
            ended.append(way)
        else:
            behind = link[2:] if link[0] == "part" else [link[2]]
            begun.extend((*way, piece) for piece in behind if piece not in follower.empty)
    return ended


def points_of(follower, players, grains):
    """The worths of the pieces to each player, where these are grains; None where they are not."""
    ways = all_ways(follower)
    points = {player: [Fraction(0)] * follower.size for player in range(1, players + 1)}
    for way, worths in grains:
        if way not in ways or len(worths) != players:
            return None
        for player, (above, below) in enumerate(worths, 1):
            if below < 1 or above < 0 or Fraction(above, below).denominator != below:
                return None
            for piece in way:
                points[player][piece] += Fraction(above, below)
    return points if all(point[0] == 1 for point in points.values()) else None


def satisfies(follower, player, point):
    if any(dot(row, point) != 0 for row in follower.equations(player)):
        return False
    return all(dot(row, point) >= 0 for row in follower.comparisons(player))


def dot(row, point):
    return sum((entry * worth for entry, worth in zip(row, point, strict=True)), Fraction(0))


def weighted_worth(follower, weights, point):
    return sum((weights[holder] * worth for holder, worth in zip(follower.holders(), point) if holder is not None),
               Fraction(0))
