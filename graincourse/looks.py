"""Looks at single branches: what a player is sure of there, or who cannot keep the rules."""

from graincourse.ratios import order
from graincourse.sheets import Bound, Shut
from graincourse.tableau import least


def look_at(branch, player, weights, keepers, known=()):
    """Return the sheet of a branch, and a dict from the keepers to worths of all pieces, empty if it is shut.

    The player is one of the keepers, who all keep the rules; `known` is what is known of the worths to them.
    """
    bound = None
    points = {}
    for keeper in keepers:
        # Of the other keepers nothing is asked but that there are such worths.
        asked = branch.weighted(weights) if keeper == player else [0] * branch.size
        result = least(branch.equations(keeper, known), branch.comparisons(keeper), asked)
        if result[0] == "shut":
            return Shut(result[1], result[2], keeper), {}
        points[keeper] = result[2]
        if keeper == player:
            bound = Bound(result[3], result[4], result[1])
    return bound, points


def least_place(sheets):
    """Return the first place of a bound with the least value in a list with at least one bound."""
    found = None
    for place, sheet in enumerate(sheets):
        if isinstance(sheet, Bound) and (found is None or order(sheet.value, sheets[found].value) < 0):
            found = place
    return found


def least_value(listed, player, weights, keepers, known=()):
    """Return the least weighted worth on the branches that are listed, not all of which may be shut."""
    sheets = [look_at(branch, player, weights, keepers, known)[0] for branch in listed]
    return sheets[least_place(sheets)].value
