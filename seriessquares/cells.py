"""The cells of a road, worked out as rows of integers."""

from seriessquares.euclid import rests
from seriessquares.rows import whole


def road_rows(series, total):
    """The unlike cells of the road of the total, from m = total on, one after the other.

    For each of them: the least m that it has on the road, and its top and its bottom, two rows of integers that have
    no divisor in common but are not divided by what the bottom is at 0.
    """
    row, scale = whole(series.field, series.coefficients[:total + 1])
    for rest, factor in rests(row, scale, series.field.prime):
        place = 0
        # A rest and its factor begin with as many zeros, for the series does not begin with 0; they have nothing
        # else in common.
        while factor[place] == 0:
            place = place + 1
        yield len(rest) - 1, rest[place:], factor[place:]


def open_rows(series):
    """The fractions with an open known square, in the order of the road: their tops and bottoms as in `road_rows`."""
    # An open square goes on to the last road that is known, and there its least m is that of its corner; the least m
    # of a closed square is greater there.
    total = series.known - 1
    return [(top, bottom) for least, top, bottom in road_rows(series, total) if least == len(top) - 1]
