"""Fractions of given degrees that have all known coefficients of a series, or the coefficient that bars them."""

from seriessquares.cells import open_rows
from seriessquares.errors import NotKnown
from seriessquares.rationals import fraction_of
from seriessquares.table import square_of


def how_many(series, m, n):
    """0, 1 or 2 (for more than one): how many fractions within (m, n) fit the series."""
    try:
        found = square_of(series, m, n)
    except NotKnown:
        return 2
    return 0 if found.closed else 1


def fitting(series, m, n):
    """The only fraction within (m, n) that fits the series, or None."""
    found = square_of(series, m, n)
    return None if found.closed else found.fraction


def barred_at(series, m, n):
    """The least index up to which no fraction within (m, n) has the coefficients, or None if one fits."""
    found = square_of(series, m, n)
    return found.m + found.n + found.size if found.closed else None


def _simplicity(pair):
    """What is the least for the simplest fraction: the sum of the degrees, then the degree of the bottom."""
    top, bottom = pair
    return len(top) + len(bottom), len(bottom)


def simplest(series):
    """The fraction that fits the series with the least sum of degrees, and then with the least bottom."""
    # A fraction that fits and whose degrees have a sum of less than `known` has an open square.
    top, bottom = min(open_rows(series), key=_simplicity)
    return fraction_of(series.field, top, bottom)
