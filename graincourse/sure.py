"""What a player who keeps the rules is sure of, with sheets and grains that show it."""

from graincourse.errors import InvalidWeights, UnknownPlayer
from graincourse.forms import is_player
from graincourse.grains import are_grains, keeps, split_flow, worths_of
from graincourse.looks import least_place, look_at
from graincourse.ratios import ZERO, negative, order
from graincourse.rows import row_value
from graincourse.schemes import lead_weights, own_weights
from graincourse.sheets import Bound, Shut


class Answer:
    """The least weighted worth of a player, with sheets that show that there is no less, and grains for it."""

    def __init__(self, value, sheets, place, grains):
        self.value = value
        self.sheets = sheets
        self.place = place
        self.grains = grains


def check_player(scheme, player):
    """Raise the error of a number that is not a player of a scheme."""
    if not is_player(player, scheme.players):
        raise UnknownPlayer(player)


def check_question(scheme, player, weights):
    """Raise the error of a wrong player, or of a wrong number of weights."""
    check_player(scheme, player)
    if len(weights) != scheme.players + 1:
        raise InvalidWeights()


def keepers_of(scheme, player, honest):
    """Return the list of the players who are known to keep the rules."""
    return list(range(1, scheme.players + 1)) if honest else [player]


def joint_grains(branch, points):
    """Return grains for the worths of all pieces to each player, which are listed player by player."""
    worths = {}
    for index, point in enumerate(points):
        for way, amount in split_flow(branch, point):
            if way not in worths:
                worths[way] = [ZERO] * len(points)
            worths[way][index] = amount
    return [(way, tuple(amounts)) for way, amounts in worths.items()]


def sure(scheme, player, weights=None, *, honest=False):
    """Return the answer that tells the least weighted worth of a player who keeps the rules."""
    asked = own_weights(scheme, player) if weights is None else weights
    check_question(scheme, player, asked)
    keepers = keepers_of(scheme, player, honest)
    looks = [look_at(branch, player, asked, keepers) for branch in scheme.branches()]
    sheets = [sheet for sheet, found in looks]
    place = least_place(sheets)
    points = looks[place][1]
    # Somebody who need not keep the rules may think of the pieces as the player does.
    listed = [points.get(other, points[player]) for other in range(1, scheme.players + 1)]
    branch = list(scheme.branches())[place]
    return Answer(sheets[place].value, sheets, place, joint_grains(branch, listed))


def lead(scheme, one, other, *, honest=False):
    """Return the answer that tells the least lead of one player, who keeps the rules, over another one."""
    check_player(scheme, one)
    check_player(scheme, other)
    return sure(scheme, one, lead_weights(scheme, one, other), honest=honest)


def span(scheme, player, *, honest=False):
    """Return the pair of the least and the greatest share of a player who keeps the rules."""
    own = own_weights(scheme, player)
    # The greatest share is the least one with the other sign.
    turned = tuple([-weight for weight in own])
    low = sure(scheme, player, own, honest=honest)
    high = sure(scheme, player, turned, honest=honest)
    return (low.value, negative(high.value))


def shows(sheet, branch, player, weights, value, keepers):
    """Return whether a sheet shows that the weighted worth is at least a value, or that a keeper cannot be one."""
    if isinstance(sheet, Bound):
        return order(sheet.value, value) >= 0 and sheet.holds(branch, player, weights)
    if isinstance(sheet, Shut):
        return sheet.player in keepers and sheet.holds(branch)
    return False


def check_sheets(scheme, player, weights, value, sheets, *, honest=False):
    """Return whether sheets, one for each branch, show that a player is sure of a value."""
    check_question(scheme, player, weights)
    if len(sheets) != len(scheme):
        return False
    keepers = keepers_of(scheme, player, honest)
    pairs = list(zip(sheets, list(scheme.branches())))
    return all([shows(sheet, branch, player, weights, value, keepers) for sheet, branch in pairs])


def check_grains(scheme, player, weights, value, place, grains, *, honest=False):
    """Return whether grains on a branch let those keep the rules who have to, and give the player a value."""
    check_question(scheme, player, weights)
    if not 0 <= place < len(scheme):
        return False
    branch = list(scheme.branches())[place]
    if not are_grains(branch, scheme.players, grains):
        return False
    for keeper in keepers_of(scheme, player, honest):
        if not keeps(branch, keeper, worths_of(branch, grains, keeper)):
            return False
    point = worths_of(branch, grains, player)
    return order(row_value(branch.weighted(weights), point), value) == 0
