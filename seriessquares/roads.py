"""Roads: the cells of one total, and Euclid's algorithm behind them."""

from seriessquares.cells import road_rows
from seriessquares.errors import NoCount, NoQuotients, NotKnown, OtherField
from seriessquares.euclid import content, division, shortened_pair
from seriessquares.kinds import is_a_sequence, is_from_to
from seriessquares.polys import Poly, poly_of
from seriessquares.rationals import Fraction, fraction_of
from seriessquares.ready import Ready
from seriessquares.rows import added, multiplied, trimmed, whole

GREATEST_TOTAL = 39
MOST_PARTS = 40


class Stretch:
    """The cells (m, total - m) of a road with m from `start` down to `end`, which are one fraction."""

    def __init__(self, start, end, fraction):
        self.start = start
        self.end = end
        self.fraction = fraction

    def __eq__(self, other):
        return (
            isinstance(other, Stretch) and self.start == other.start and self.end == other.end
            and self.fraction == other.fraction
        )


def _check_total(series, total):
    if not is_from_to(total, 0, GREATEST_TOTAL):
        raise NoCount()
    if total >= series.known:
        raise NotKnown(series.known)


def road(series, total):
    """The stretches of the road of the total, in its order."""
    _check_total(series, total)
    found = []
    start = total
    for end, top, bottom in road_rows(series, total):
        found.append(Stretch(start, end, fraction_of(series.field, top, bottom)))
        start = end - 1
    return found


def quotients(series, total):
    """The quotients of Euclid's algorithm on x ** (total + 1) and the first total + 1 coefficients."""
    _check_total(series, total)
    field = series.field
    row, scale = whole(field, series.coefficients[:total + 1])
    high, low = [*[0 for _ in row], 1], trimmed(row, field.prime)
    # Each row of integers, multiplied by its factor, is the rest itself.
    high_factor, low_factor = field.number(1), field.over(1, scale)
    found = []
    while len(low) > 0:
        times, quotient, rest = division(high, low, field.prime)
        factor = field.over(high_factor, low_factor * times)
        found.append(Poly(field, Ready([field.number(each * factor) for each in quotient])))
        common = content(rest, field.prime)
        high, low = low, [each // common for each in rest]
        high_factor, low_factor = low_factor, field.over(high_factor * common, times)
    return found


def _check_parts(field, parts):
    if not is_a_sequence(parts) or not 1 <= len(parts) <= MOST_PARTS:
        raise NoQuotients(-1)
    for place, part in enumerate(parts):
        # Only the first part may be a constant, and none may be nothing.
        if not isinstance(part, Poly) or part.degree < min(place, 1):
            raise NoQuotients(place)
    for part in parts:
        if part.field != field:
            raise OtherField()


def rebuilt(field, parts):
    """The fraction q0 + 1 / (q1 + 1 / (q2 + ..)) of the parts."""
    _check_parts(field, parts)
    # From the inside; what stands behind the last part is 1 over nothing.
    top, bottom = [1], []
    for part in reversed(parts):
        row, scale = whole(field, part.coefficients)
        over = added(multiplied(row, top), [scale * each for each in bottom])
        top, bottom = shortened_pair(over, [scale * each for each in top], field.prime)
    return Fraction(poly_of(field, top, 1), poly_of(field, bottom, 1))
