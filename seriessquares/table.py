"""The table: cells, and the squares of the pairs that have the same cell."""

from seriessquares.cells import open_rows, road_rows
from seriessquares.errors import NoCell, NotKnown
from seriessquares.kinds import is_an_integer, is_from_to
from seriessquares.rationals import fraction_of
from seriessquares.squares import Square

GREATEST = 39


def check_pair(m, n, greatest):
    """Raise NoCell unless both are integers from 0 to `greatest`."""
    if not is_from_to(m, 0, greatest):
        raise NoCell("m")
    if not is_from_to(n, 0, greatest):
        raise NoCell("n")


def own_square(series, fraction):
    """The known square of a fraction that is a sure cell."""
    m, n = fraction.degrees
    miss = fraction.agreement(series)
    reach = series.known if miss is None else miss
    return Square(m, n, reach - m - n, miss is not None, fraction)


def _known_square(series, m, n):
    """The known square in which (m, n) lies, or None."""
    # A known square that has (m, n) also has the pair with this m on the last road that is known as a whole; none
    # reaches beyond this road.
    total = min(m + n, series.known - 1)
    for least, top, bottom in road_rows(series, total):
        # What stands further down the road need not be worked out.
        if least <= m:
            break
    found = own_square(series, fraction_of(series.field, top, bottom))
    return found if found.has(m, n) else None


def is_sure(series, m, n):
    """Whether the cell (m, n) is the same for all continuations."""
    check_pair(m, n, GREATEST)
    return _known_square(series, m, n) is not None


def square_of(series, m, n):
    """The known square in which (m, n) lies."""
    check_pair(m, n, GREATEST)
    found = _known_square(series, m, n)
    if found is None:
        raise NotKnown(series.known)
    return found


def cell(series, m, n):
    """The cell (m, n), if it is sure."""
    return square_of(series, m, n).fraction


def squares(series):
    """All known squares, by m + n of the corner, then by m."""
    found = []
    for total in range(series.known):
        for _, top, bottom in reversed(list(road_rows(series, total))):
            # A corner lies on the road of its own total; elsewhere the square was met before.
            if len(top) - 1 + len(bottom) - 1 == total:
                found.append(own_square(series, fraction_of(series.field, top, bottom)))
    return found


def _order(square):
    """By what squares are ordered."""
    return square.m + square.n, square.m


def open_squares(series):
    """The open ones of the known squares, in the order of `squares`."""
    rows = open_rows(series)
    found = [own_square(series, fraction_of(series.field, top, bottom)) for top, bottom in rows]
    return sorted(found, key=_order)


def twins(series, m, n):
    """Two continuations with different cells (m, n), or None if the cell is sure."""
    if is_sure(series, m, n):
        return None
    # Continuations that differ in the first new coefficient do it, whatever follows.
    zeros = [0 for _ in range(m + n - series.known)]
    return series.then([0, *zeros]), series.then([1, *zeros])


def check_cell(series, m, n, thing):
    """Whether the cell (m, n) is sure and the thing is a Fraction equal to it."""
    check_pair(m, n, GREATEST)
    found = _known_square(series, m, n)
    return found is not None and found.fraction == thing


def check_square(series, thing):
    """Whether the thing is a Square equal to one of the known squares."""
    if not isinstance(thing, Square):
        return False
    # A number may be equal to a corner or a size, and to a FLAG, without being of its kind.
    if not (is_an_integer(thing.m) and is_an_integer(thing.n) and is_an_integer(thing.size)):
        return False
    if not isinstance(thing.closed, bool) or thing.m < 0 or thing.n < 0:
        return False
    return _known_square(series, thing.m, thing.n) == thing
