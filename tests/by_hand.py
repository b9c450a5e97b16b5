"""Cells, squares and determinants in a way of the tests' own, over rows of numbers as in plain.py."""

from itertools import permutations

# The cells that were worked out, by the prime, m and the coefficients on which they depend.
CELLS = {}


def null_vector(plain, rows, width):
    """A vector that is not 0 and on which all rows (linear equations) are 0; there are more unknowns than rows."""
    rows = [plain.row(row) for row in rows]
    pivots = []
    for column in range(width):
        place = next((k for k in range(len(pivots), len(rows)) if rows[k][column] != 0), None)
        if place is None:
            continue
        rows[len(pivots)], rows[place] = rows[place], rows[len(pivots)]
        lead = rows[len(pivots)]
        lead = plain.row([each * plain.inverse(lead[column]) for each in lead])
        rows[len(pivots)] = lead
        for k in range(len(rows)):
            if k != len(pivots):
                rows[k] = plain.row([a - rows[k][column] * b for a, b in zip(rows[k], lead)])
        pivots.append(column)
    free = next(column for column in range(width) if column not in pivots)
    vector = [0] * width
    vector[free] = 1
    for k, column in enumerate(pivots):
        vector[column] = -rows[k][free]
    return plain.row(vector)


def cell(plain, row, m, n):
    """Top and bottom of the cell (m, n), from the equations for the coefficients m + 1 to m + n."""
    key = (plain.prime, m, tuple(row[:m + n + 1]))
    if key not in CELLS:
        CELLS[key] = solved(plain, row, m, n)
    return CELLS[key]


def solved(plain, row, m, n):
    def at(index):
        return row[index] if index >= 0 else 0

    bottom = null_vector(plain, [[at(k - j) for j in range(n + 1)] for k in range(m + 1, m + n + 1)], n + 1)
    top = [sum(at(k - j) * bottom[j] for j in range(n + 1)) for k in range(m + 1)]
    return plain.lowest(plain.trim(top), plain.trim(bottom))


def agreement(plain, pair, row):
    """The least index at which the power series of top / bottom is not as in the row, or None."""
    found = plain.expanded(pair[0], pair[1], len(row))
    return next((k for k in range(len(row)) if found[k] != row[k]), None)


def known_squares(plain, row):
    """All known squares as (m, n, size, closed, (top, bottom)), in their order."""
    found = []
    for total in range(len(row)):
        for m in range(total + 1):
            pair = cell(plain, row, m, total - m)
            a, b = len(pair[0]) - 1, len(pair[1]) - 1
            if (a, b) == (m, total - m):
                miss = agreement(plain, pair, row)
                size = (len(row) if miss is None else miss) - a - b
                found.append((a, b, size, miss is not None, pair))
    return found


def determinant(plain, rows):
    """The sum over all permutations."""
    total = 0
    for order in permutations(range(len(rows))):
        term = 1
        for k, place in enumerate(order):
            term = term * rows[k][place]
        falls = sum(order[i] > order[j] for i in range(len(order)) for j in range(i + 1, len(order)))
        total = total + (-1) ** falls * term
    return plain.number(total)


def eliminated(plain, rows):
    """The determinant by Gauss's elimination."""
    rows = [plain.row(row) for row in rows]
    total = plain.number(1)
    for k in range(len(rows)):
        place = next((i for i in range(k, len(rows)) if rows[i][k] != 0), None)
        if place is None:
            return plain.number(0)
        if place != k:
            rows[k], rows[place] = rows[place], rows[k]
            total = -total
        total = plain.number(total * rows[k][k])
        for i in range(k + 1, len(rows)):
            factor = plain.number(rows[i][k] * plain.inverse(rows[k][k]))
            rows[i] = plain.row([a - factor * b for a, b in zip(rows[i], rows[k])])
    return total


def coefficient_table(row, m, n):
    """The table with the coefficient of index m - i + j in row i and column j."""
    return [[row[m - i + j] if m - i + j >= 0 else 0 for j in range(n)] for i in range(n)]
