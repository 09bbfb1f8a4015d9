"""The least weighted sum of worths under given rows, with numbers that show that it is the least."""

from graincourse.ratios import reduced


def exchanged(row, other, column, scale):
    """Return a row with its entry at a column written by the one that another row stands for."""
    factor, by = row[column], other[column]
    # The division leaves no rest: the entries are determinants of entries at the start.
    fresh = [(entry * by - factor * beside) // scale for entry, beside in zip(row, other)]
    fresh[column] = factor
    return fresh if by > 0 else [-entry for entry in fresh]


class Tableau:
    """Sums that are written by each other.

    A quantity is a worth or the value of a row; they are numbered, the worths
    first, then the comparisons, then the equations. Each row of the tableau
    writes its quantity, which stands in `inner`, as a sum of those in `outer`:
    its entries, divided by `scale`, times these. The last row writes the
    weighted sum. Column 0 always stands for the whole, whose worth is 1.
    """

    def __init__(self, equations, comparisons, weights):
        self.many_worths = len(weights)
        self.many_comparisons = len(comparisons)
        self.many_equations = len(equations)
        self.first_equation = len(weights) + len(comparisons)
        self.rows = [list(row) for row in [*comparisons, *equations, weights]]
        self.scale = 1
        self.outer = list(range(len(weights)))
        self.inner = [len(weights) + index for index in range(len(comparisons) + len(equations))]

    def exchange(self, at, column):
        """Let the quantities of a row and of a column change their places."""
        taken = self.rows[at]
        by = taken[column]
        rows = [exchanged(row, taken, column, self.scale) for row in self.rows]
        rows[at] = [-entry if by > 0 else entry for entry in taken]
        rows[at][column] = self.scale if by > 0 else -self.scale
        self.rows = rows
        self.scale = abs(by)
        self.inner[at], self.outer[column] = self.outer[column], self.inner[at]

    def free_columns(self):
        """Return the list of the columns of quantities that may be above 0, the least quantity first."""
        # The value of an equation stays 0 once it stands outside.
        columns = [column for column in range(1, len(self.outer)) if self.outer[column] < self.first_equation]
        return sorted(columns, key=lambda column: self.outer[column])

    def free_rows(self):
        """Return the list of the rows of quantities that may be above 0, the least quantity first."""
        rows = [at for at in range(len(self.inner)) if self.inner[at] < self.first_equation]
        return sorted(rows, key=lambda at: self.inner[at])


def settle_equations(table):
    """Bring all equations outside; return a row that cannot have its value then, or None."""
    first = table.many_comparisons
    for at in range(first, first + table.many_equations):
        row = table.rows[at]
        columns = [column for column in table.free_columns() if row[column] != 0]
        if columns:
            table.exchange(at, columns[0])
        elif row[0] != 0:
            return at
    return None


def raise_rows(table):
    """Bring all inner quantities to at least 0; return a row where this cannot be, or None."""
    while True:
        low = [at for at in table.free_rows() if table.rows[at][0] < 0]
        if not low:
            return None
        row = table.rows[low[0]]
        columns = [column for column in table.free_columns() if row[column] > 0]
        if not columns:
            return low[0]
        # Taking the least quantities, here and below, keeps the exchanges from going round in a circle.
        table.exchange(low[0], columns[0])


def first_limit(table, column):
    """Return the row whose quantity is the first one to be 0 when that of a column grows."""
    found = None
    for at in table.free_rows():
        have, step = table.rows[at][0], table.rows[at][column]
        if step < 0 and (found is None or have * table.rows[found][column] > table.rows[found][0] * step):
            found = at
    return found


def lower_sum(table):
    """Bring the weighted sum to its least value, from inner quantities that are at least 0."""
    while True:
        columns = [column for column in table.free_columns() if table.rows[-1][column] < 0]
        if not columns:
            return
        table.exchange(first_limit(table, columns[0]), columns[0])


def numbers_of(table, numbers):
    """Return the fractions of the equations and those of the comparisons, 0 for those that are not in a dict."""
    zero = (0, 1)
    equal = [numbers.get(table.first_equation + index, zero) for index in range(table.many_equations)]
    above = [numbers.get(table.many_worths + index, zero) for index in range(table.many_comparisons)]
    return equal, above


def met_result(table):
    """Return the result for a tableau where the weighted sum has its least value."""
    last, scale = table.rows[-1], table.scale
    worths = {table.inner[at]: reduced(table.rows[at][0], scale) for at in range(len(table.inner))}
    worths[0] = (1, 1)
    point = [worths.get(piece, (0, 1)) for piece in range(table.many_worths)]
    # The weighted sum is its value and these numbers times the outer quantities.
    numbers = {table.outer[column]: reduced(last[column], scale) for column in range(1, len(last))}
    equal, above = numbers_of(table, numbers)
    return ("met", reduced(last[0], scale), point, equal, above)


def shut_result(table, at):
    """Return the result for a tableau with a row that cannot have its value."""
    row = table.rows[at]
    # The row is solved for the whole, so that the total for the whole is -1.
    numbers = {table.outer[column]: reduced(row[column], row[0]) for column in range(1, len(row))}
    numbers[table.inner[at]] = reduced(-table.scale, row[0])
    equal, above = numbers_of(table, numbers)
    return ("shut", equal, above)


def least(equations, comparisons, weights):
    """Return the least sum of the weights times the worths, or show that there are no such worths."""
    table = Tableau(equations, comparisons, weights)
    wrong = settle_equations(table)
    if wrong is None:
        wrong = raise_rows(table)
    if wrong is not None:
        return shut_result(table, wrong)
    lower_sum(table)
    return met_result(table)
