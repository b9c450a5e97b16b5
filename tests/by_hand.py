"""Cells, squares and determinants in a way of the tests' own, over rows of numbers as in plain.py."""

from itertools import permutations, product

# The cells that were worked out, by the prime, m and the coefficients on which they depend.
CELLS = {}


def null_vector(plain, rows, width):
    """A vector that is not 0 and on which all rows (linear equations) are 0; there are more unknowns than rows."""
    rows = [plain.row(row) for row in rows]
    pivots = []
    for column in range(width):
        place = next((k for k in range(len(pivots), len(rows)) if rows[k][column] != 0), None)
        if place is None:
            continue
        rows[len(pivots)], rows[place] = rows[place], rows[len(pivots)]
        lead = rows[len(pivots)]
        lead = plain.row([each * plain.inverse(lead[column]) for each in lead])
        rows[len(pivots)] = lead
        for k in range(len(rows)):
            if k != len(pivots):
                rows[k] = plain.row([a - rows[k][column] * b for a, b in zip(rows[k], lead)])
        pivots.append(column)
    free = next(column for column in range(width) if column not in pivots)
    vector = [0] * width
    vector[free] = 1
    for k, column in enumerate(pivots):
        vector[column] = -rows[k][free]
    return plain.row(vector)


def cell(plain, row, m, n):
    """Top and bottom of the cell (m, n), from the equations for the coefficients m + 1 to m + n."""
    key = (plain.prime, m, tuple(row[:m + n + 1]))
    if key not in CELLS:
        CELLS[key] = solved(plain, row, m, n)
    return CELLS[key]


def solved(plain, row, m, n):
    def at(index):
        return row[index] if index >= 0 else 0

    bottom = null_vector(plain, [[at(k - j) for j in range(n + 1)] for k in range(m + 1, m + n + 1)], n + 1)
    top = [sum(at(k - j) * bottom[j] for j in range(n + 1)) for k in range(m + 1)]
    return plain.lowest(plain.trim(top), plain.trim(bottom))


def agreement(plain, pair, row):
    """The least index at which the power series of top / bottom is not as in the row, or None."""
    found = plain.expanded(pair[0], pair[1], len(row))
    return next((k for k in range(len(row)) if found[k] != row[k]), None)


def known_squares(plain, row):
    """All known squares as (m, n, size, closed, (top, bottom)), in their order."""
    found = []
    for total in range(len(row)):
        for m in range(total + 1):
            pair = cell(plain, row, m, total - m)
            a, b = len(pair[0]) - 1, len(pair[1]) - 1
            if (a, b) == (m, total - m):
                miss = agreement(plain, pair, row)
                size = (len(row) if miss is None else miss) - a - b
                found.append((a, b, size, miss is not None, pair))
    return found


def determinant(plain, rows):
    """The sum over all permutations."""
    total = 0
    for order in permutations(range(len(rows))):
        term = 1
        for k, place in enumerate(order):
            term = term * rows[k][place]
        falls = sum(order[i] > order[j] for i in range(len(order)) for j in range(i + 1, len(order)))
        total = total + (-1) ** falls * term
    return plain.number(total)


def eliminated(plain, rows):
    """The determinant by Gauss's elimination."""
    rows = [plain.row(row) for row in rows]
    total = plain.number(1)
    for k in range(len(rows)):
        place = next((i for i in range(k, len(rows)) if rows[i][k] != 0), None)
        if place is None:
            return plain.number(0)
        if place != k:
            rows[k], rows[place] = rows[place], rows[k]
            total = -total
        total = plain.number(total * rows[k][k])
        for i in range(k + 1, len(rows)):
            factor = plain.number(rows[i][k] * plain.inverse(rows[k][k]))
            rows[i] = plain.row([a - factor * b for a, b in zip(rows[i], rows[k])])
    return total


def coefficient_table(row, m, n):
    """The table with the coefficient of index m - i + j in row i and column j."""
    return [[row[m - i + j] if m - i + j >= 0 else 0 for j in range(n)] for i in range(n)]


# What `all_fractions` has found, by its arguments.
FRACTIONS = {}


def all_fractions(plain, m, n, count):
    """All fractions within (m, n) modulo a small prime: (top, bottom) in lowest terms, with `count` coefficients."""
    key = (plain.prime, m, n, count)
    if key not in FRACTIONS:
        found = {}
        for bottom in product(range(plain.prime), repeat=n):
            for top in product(range(plain.prime), repeat=m + 1):
                if any(top):
                    pair = plain.lowest(plain.trim(top), plain.trim([1, *bottom]))
                    found[tuple(map(tuple, pair))] = plain.expanded(list(top), [1, *bottom], count)
        FRACTIONS[key] = found
    return FRACTIONS[key]


def solution(plain, rows, rights):
    """A list of numbers that solves the linear equations, or None if there is none."""
    rows = [plain.row([*row, right]) for row, right in zip(rows, rights)]
    width = len(rows[0]) - 1 if rows else 0
    pivots = []
    for column in range(width):
        place = next((k for k in range(len(pivots), len(rows)) if rows[k][column] != 0), None)
        if place is None:
            continue
        rows[len(pivots)], rows[place] = rows[place], rows[len(pivots)]
        lead = plain.row([each * plain.inverse(rows[len(pivots)][column]) for each in rows[len(pivots)]])
        rows[len(pivots)] = lead
        for k in range(len(rows)):
            if k != len(pivots):
                rows[k] = plain.row([a - rows[k][column] * b for a, b in zip(rows[k], lead)])
        pivots.append(column)
    if any(row[-1] != 0 for row in rows[len(pivots):]):
        return None
    found = [plain.number(0)] * width
    for k, column in enumerate(pivots):
        found[column] = rows[k][-1]
    return found


def length(plain, row):
    """The least length of a recurrence, from the linear equations for its numbers."""
    for many in range(1, len(row)):
        places = range(many, len(row))
        rows = [[row[k - j] for j in range(1, many + 1)] for k in places]
        if solution(plain, rows, [row[k] for k in places]) is not None:
            return many
    return len(row)


def is_recurrence(plain, row, numbers):
    """Whether each coefficient from the index len(numbers) on is as the recurrence tells."""
    return all(row[k] == plain.number(sum(r * row[k - j] for j, r in enumerate(numbers, 1)))
               for k in range(len(numbers), len(row)))
