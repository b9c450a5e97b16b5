"""Determinants of tables of coefficients, and what they tell of neighbouring cells."""

from seriessquares.errors import NotKnown
from seriessquares.rows import whole
from seriessquares.table import GREATEST, check_pair, square_of


def _entry(row, index):
    """The coefficient of the index, 0 below 0."""
    return row[index] if index >= 0 else 0


def _whole_determinant(rows):
    """The determinant of a table of integers with at least one row."""
    sign, before = 1, 1
    while len(rows) > 1:
        places = [k for k in range(len(rows)) if rows[k][0] != 0]
        if len(places) == 0:
            return 0
        place = places[0]
        first = rows[place]
        if place & 1 == 1:
            sign = -sign
        others = [*rows[:place], *rows[place + 1:]]
        # All entries become minors of the first table, so the division leaves no rest (Bareiss).
        rows = [
            [(first[0] * each - row[0] * above) // before for each, above in zip(row[1:], first[1:])] for row in others
        ]
        before = first[0]
    return sign * rows[0][0]


def determinant(series, m, n):
    """The determinant of the n rows and columns with the coefficient of index m - i + j in row i and column j."""
    check_pair(m, n, GREATEST)
    if n == 0:
        return series.field.number(1)
    if m + n - 1 >= series.known:
        raise NotKnown(series.known)
    row, bottom = whole(series.field, series.coefficients[:m + n])
    rows = [[_entry(row, m - i + j) for j in range(n)] for i in range(n)]
    scale = 1
    for _ in range(n):
        scale = scale * bottom
    return series.field.over(_whole_determinant(rows), scale)


def neighbours(series, m, n):
    """Whether the cells (m, n) and (m + 1, n + 1) are the same fraction for all continuations."""
    check_pair(m, n, GREATEST - 1)
    if m + n + 2 > series.known:
        raise NotKnown(series.known)
    return square_of(series, m, n).has(m + 1, n + 1)
