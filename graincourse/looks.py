"""Looks at single branches: what a player is sure of there, or who cannot keep the rules."""

from graincourse.ratios import common_divisor, order, times
from graincourse.sheets import Bound, Shut
from graincourse.tableau import least


def look_at(branch, player, weights, keepers):
    """Return the sheet of a branch, and a dict from the keepers to worths of all pieces, empty if it is shut.

    The player is one of the keepers, who all keep the rules.
    """
    bound = None
    points = {}
    for keeper in keepers:
        # Of the other keepers nothing is asked but that there are such worths.
        asked = branch.weighted(weights) if keeper == player else [0] * branch.size
        result = least(branch.equations(keeper), branch.comparisons(keeper), asked)
        if result[0] == "shut":
            return Shut(result[1], result[2], keeper), {}
        points[keeper] = result[2]
        if keeper == player:
            bound = Bound(result[3], result[4], result[1])
    return bound, points


def least_place(sheets):
    """Return the first place of a bound with the least value in a list with at least one bound."""
    found = None
    for place, sheet in enumerate(sheets):
        if isinstance(sheet, Bound) and (found is None or order(sheet.value, sheets[found].value) < 0):
            found = place
    return found


def least_value(listed, player, weights, keepers):
    """Return the least weighted worth on the branches that are listed, not all of which may be shut."""
    sheets = [look_at(branch, player, weights, keepers)[0] for branch in listed]
    return sheets[least_place(sheets)].value


def shared_denominator(parts):
    """Return the least number that is a multiple of the denominators of all fractions."""
    number = 1
    for part in parts:
        number *= part[1] // common_divisor(number, part[1])
    return number


def folded(row, worths):
    """Return a row in which the first pieces, whose worths are known, are put together as a single one."""
    return (sum([entry * worth for entry, worth in zip(row, worths)]), *row[len(worths):])


def least_behind(listed, player, weights, point):
    """Return the least weighted worth on branches, not all shut, whose first pieces have the worths of a point."""
    # Counted in such parts, all known worths are integers, which keeps the other numbers of the rows small.
    scale = shared_denominator(point)
    worths = [above * (scale // below) for above, below in point]
    values = []
    for branch in listed:
        equations = [folded(row, worths) for row in branch.equations(player)]
        comparisons = [folded(row, worths) for row in branch.comparisons(player)]
        result = least(equations, comparisons, folded(branch.weighted(weights), worths))
        if result[0] == "met":
            values.append(times(result[1], (1, scale)))
    lowest = values[0]
    for value in values:
        if order(value, lowest) < 0:
            lowest = value
    return lowest
