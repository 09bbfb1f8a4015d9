"""Sheets: numbers for the rows of a player on a branch, which show what the player is sure of there."""

from graincourse.ratios import ZERO, negative, order, plus
from graincourse.rows import row_value


def are_within(parts, limits):
    """Return whether each of some fractions is at most the limit with the same index."""
    return all([order(part, limit) <= 0 for part, limit in zip(parts, limits)])


class Sheet:
    """One fraction for each equation and each comparison of a player on a branch."""

    def __init__(self, equal, above):
        self.equal = [tuple(number) for number in equal]
        self.above = [tuple(number) for number in above]

    def numbers(self):
        """Return the list of all numbers, those of equations first."""
        return [*self.equal, *self.above]

    def fits(self, branch, player, known=()):
        """Return whether there is one number for each row, and none of a comparison is negative."""
        if len(self.equal) != len(branch.equations(player, known)):
            return False
        if len(self.above) != len(branch.comparisons(player)):
            return False
        return all([order(number, ZERO) >= 0 for number in self.above])

    def totals(self, branch, player, known=()):
        """Return the list of the sums, for each piece, of the numbers times the entries of the rows."""
        rows = [*branch.equations(player, known), *branch.comparisons(player)]
        numbers = [*self.equal, *self.above]
        return [row_value([row[piece] for row in rows], numbers) for piece in range(branch.size)]


class Bound(Sheet):
    """A sheet that shows that the weighted worth of a branch is never less than a value."""

    def __init__(self, equal, above, value):
        Sheet.__init__(self, equal, above)
        self.value = tuple(value)

    def numbers(self):
        """Return the list of all numbers, those of equations first, and the value at the end."""
        return [*self.equal, *self.above, self.value]

    def holds(self, branch, player, weights, *, known=()):
        """Return whether the sheet fits, and its totals leave room for the value under the weights."""
        if not self.fits(branch, player, known):
            return False
        limits = [(weight, 1) for weight in branch.weighted(weights)]
        limits[0] = plus(limits[0], negative(self.value))
        return are_within(self.totals(branch, player, known), limits)


class Shut(Sheet):
    """A sheet that shows that a player cannot keep the rules on a branch."""

    def __init__(self, equal, above, player):
        Sheet.__init__(self, equal, above)
        self.player = player

    def numbers(self):
        """Return the list of all numbers, those of equations first, and the player at the end."""
        return [*self.equal, *self.above, self.player]

    def holds(self, branch, *, known=()):
        """Return whether the sheet fits, and no worths of the player satisfy the rows."""
        if not self.fits(branch, self.player, known):
            return False
        limits = [(-1, 1), *[ZERO for piece in range(branch.size - 1)]]
        return are_within(self.totals(branch, self.player, known), limits)
