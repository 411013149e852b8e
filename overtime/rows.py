"""A table, and the parts that its rows are put together from.

A part is a pair: a row (a tuple of numbers) and the bounds of a set at which it holds. One row may have several parts.
"""

from overtime.moments import in_any, in_at_least, in_just_one


class Table:
    """rows is a dict: each row that ever holds, and the bounds of the moments at which it does."""

    def __init__(self, width, key_width):
        self.width = width
        self.key_width = key_width
        self.rows = {}


def parts_of(table):
    return list(table.rows.items())


def grouped(parts, size):
    """A dict: the first size numbers of the parts' rows, and the list of the sets of all parts that begin so."""
    groups = {}
    for row, bounds in parts:
        groups.setdefault(row[:size], []).append(bounds)
    return groups


def rows_from(parts, width):
    """The dict of rows that these parts make."""
    rows = {}
    for row, sets in grouped(parts, width).items():
        bounds = in_any(sets)
        if bounds:
            rows[row] = bounds
    return rows


def clash_moments(parts, key_width):
    """For each key that two parts have at one moment, the earliest such moment."""
    moments = []
    for sets in grouped(parts, key_width).values():
        # Two parts of the very same row count as two: a row that is added to itself clashes.
        doubled = in_at_least(2, sets)
        if doubled:
            moments.append(doubled[0])
    return moments


def differing_moments(left, right):
    """The bounds of the moments at which two dicts of rows don't tell the same rows."""
    rows = list(left) + [row for row in right if row not in left]
    return in_any([in_just_one(left.get(row, []), right.get(row, [])) for row in rows])
