"""Fractions through given values, also where some of the values are wrong."""

from seriessquares.errors import NoCell, NoPoints
from seriessquares.euclid import coprime_rows, shortened_pair
from seriessquares.kinds import is_a_sequence, is_an_integer, is_from_to
from seriessquares.polys import poly_of
from seriessquares.rows import added, multiplied, taken, whole

MOST_POINTS = 30
GREATEST_DEGREE = 29


class Passage:
    """A pair of polynomials, and the places of the points that it misses."""

    def __init__(self, top, bottom, missed):
        self.top = top
        self.bottom = bottom
        self.missed = tuple(missed) if isinstance(missed, list) else missed

    def __eq__(self, other):
        return (
            isinstance(other, Passage) and self.top == other.top and self.bottom == other.bottom
            and self.missed == other.missed
        )

    def at(self, number):
        """The value of top over bottom at the number, or None if the bottom is 0 there."""
        below = self.bottom.at(number)
        if below == 0:
            return None
        return self.bottom.field.over(self.top.at(number), below)


def _checked(field, points):
    """The points as a list of pairs of numbers of the field; it raises NoPoints."""
    if not is_a_sequence(points) or not 1 <= len(points) <= MOST_POINTS:
        raise NoPoints(-1)
    found = []
    for place, point in enumerate(points):
        numbers = taken(field, point) if is_a_sequence(point) and len(point) == 2 else []
        if len(numbers) < 2 or numbers[0] in [x for x, _ in found]:
            raise NoPoints(place)
        found.append((numbers[0], numbers[1]))
    return found


def _check_degrees(m, n, words):
    if not is_from_to(m, 0, GREATEST_DEGREE):
        raise NoCell(words[0])
    if not is_from_to(n, 0, GREATEST_DEGREE):
        raise NoCell(words[1])


def _whole_point(field, point):
    """The integers x, v, y, w of the point (x / v, y / w)."""
    above, below = whole(field, [point[0]])
    right_above, right_below = whole(field, [point[1]])
    return above[0], below, right_above[0], right_below


def _misses(pairs, point, prime):
    """For each of the pairs (P, Q) the number P(x) - y Q(x) at the point, all times one factor that is not 0."""
    x, below, y, right_below = point
    powers = [1]
    for _ in range(max([len(row) for pair in pairs for row in pair]) - 1):
        powers = [*[each * below for each in powers], powers[-1] * x]
    found = []
    for top, bottom in pairs:
        value = right_below * sum([each * power for each, power in zip(top, powers)])
        value = value - y * sum([each * power for each, power in zip(bottom, powers)])
        found.append(value if prime == 0 else value % prime)
    return found


def _combined(one, factor, other, other_factor, prime):
    """The pair factor * one - other_factor * other, up to a factor."""
    rows = []
    for row, other_row in zip(one, other):
        rows.append(added([factor * each for each in row], [-other_factor * each for each in other_row]))
    return shortened_pair(rows[0], rows[1], prime)


def _one_more(pairs, point, lead, prime):
    """The two pairs, changed so that both have P(x) = y Q(x) at one more point, too."""
    misses = _misses(pairs, point, prime)
    # The lower one of the two that miss is multiplied and taken from the other one, which keeps its highest term.
    low = 0 if len(pairs[0][0]) - len(pairs[1][1]) < lead else 1
    if misses[low] == 0:
        low = 1 - low
    kept = _combined(pairs[1 - low], misses[low], pairs[low], misses[1 - low], prime)
    top, bottom = [multiplied([-point[0], point[1]], row) for row in pairs[low]]
    raised = shortened_pair(top, bottom, prime)
    return [raised, kept] if low == 0 else [kept, raised]


def _meeting(points, m, prime):
    """The rows of polynomials (P, Q), not both nothing, with P(x) = y Q(x) at all points; P has at most degree m.

    The degree of Q is at most the number of points less m + 1.
    """
    lead = 2 * m + 1 - len(points)
    # All pairs that meet the points are sums of multiples of these two. The highest term of the first one is that of
    # its P, if a degree of P is counted from m on and one of Q from the greatest degree of Q on; that of the second
    # one is in its Q.
    pairs = [([1], []), ([], [1])]
    for point in points:
        pairs = _one_more(pairs, point, lead, prime)
    return pairs[0] if len(pairs[0][0]) <= m + 1 else pairs[1]


def _passage(field, points, m):
    """The Passage of the points with degrees of at most m and the number of points less m + 1."""
    places = [_whole_point(field, point) for point in points]
    top, bottom = _meeting(places, m, field.prime)
    top, bottom = coprime_rows(top, bottom, field.prime)
    # Where the bottom is 0 the top is not, so that the point is missed there as elsewhere.
    missed = [place for place, point in enumerate(places) if _misses([(top, bottom)], point, field.prime) != [0]]
    return Passage(poly_of(field, top, bottom[-1]), poly_of(field, bottom, bottom[-1]), missed)


def through(field, points, m, n):
    """The Passage of degrees at most m and n through as many of the points as there are."""
    pairs = _checked(field, points)
    _check_degrees(m, n, ("m", "n"))
    if m + n + 1 != len(pairs):
        raise NoCell("sum")
    return _passage(field, pairs, m)


def check_passage(field, points, m, n, candidate):
    """Whether the candidate is a Passage equal to the one that `through` returns."""
    found = through(field, points, m, n)
    if not isinstance(candidate, Passage) or not isinstance(candidate.missed, tuple):
        return False
    # A Ratio or a FLAG may be equal to a place without being one.
    return all([is_an_integer(place) for place in candidate.missed]) and found == candidate


def mended(field, points, *, top, bottom):
    """The Passage of degrees at most `top` and `bottom` that misses few enough points to be the only one, or None."""
    pairs = _checked(field, points)
    _check_degrees(top, bottom, ("top", "bottom"))
    spare = len(pairs) - (top + bottom + 1)
    if spare < 0:
        raise NoCell("sum")
    most = spare // 2
    # Times x - a for each wrong place a, the two polynomials meet all points and have these degrees at most.
    found = _passage(field, pairs, len(pairs) - 1 - (bottom + most))
    if found.top.degree > top or found.bottom.degree > bottom or len(found.missed) > most:
        return None
    return found
