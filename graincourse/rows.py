"""The values of rows, which have one integer for each piece of a branch."""

from graincourse.ratios import times, total


def row_value(row, point):
    """Return the sum of the entries of a row times as many fractions."""
    return total([times((entry, 1), part) for entry, part in zip(row, point) if entry != 0])
