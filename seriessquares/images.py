"""What becomes of series and fractions: turned, moved by tables of four numbers, raised, spread, reduced."""

from seriessquares.errors import NoField, NoImage, NoNumber, NoReduction, OtherField
from seriessquares.fields import Field, check_same_field
from seriessquares.kinds import is_from_to
from seriessquares.polys import Poly
from seriessquares.rationals import Fraction
from seriessquares.ready import Ready, Settled
from seriessquares.rows import added, multiplied, numbers_of, power_series, scaled_row, taken, whole
from seriessquares.series import MOST_PASSED, Series

MOST_STEP = 4


def turned(series):
    """The series of 1 over the series."""
    field = series.field
    return Series(field, Ready(power_series(field, [field.number(1)], series.coefficients, series.known)))


def _first(thing):
    """The first coefficient of the power series of a series or a fraction."""
    if isinstance(thing, Series):
        return thing.coefficients[0]
    return thing.top.coefficient(0)


def _line(field, factor, row, constant):
    """The coefficients of factor times the power series of the row, plus the constant."""
    numbers = [field.number(factor * each) for each in row]
    return [field.number(numbers[0] + constant), *numbers[1:]]


class Moebius:
    """The table of the numbers p, q, r, s, which moves f to (p f + q) / (r f + s)."""

    def __init__(self, field, p, q, r, s):
        self.field = field
        self.p = field.number(p)
        self.q = field.number(q)
        self.r = field.number(r)
        self.s = field.number(s)
        if field.number(self.p * self.s - self.q * self.r) == 0:
            raise NoImage("flat")

    def __eq__(self, other):
        return (
            isinstance(other, Moebius) and self.field == other.field and self.p == other.p and self.q == other.q
            and self.r == other.r and self.s == other.s
        )

    def __call__(self, thing):
        check_same_field(self, thing)
        field = self.field
        first = _first(thing)
        if field.number(self.p * first + self.q) == 0:
            raise NoImage("top")
        if field.number(self.r * first + self.s) == 0:
            raise NoImage("bottom")
        if isinstance(thing, Fraction):
            return Fraction(thing.top * self.p + thing.bottom * self.q, thing.top * self.r + thing.bottom * self.s)
        tops = _line(field, self.p, thing.coefficients, self.q)
        bottoms = _line(field, self.r, thing.coefficients, self.s)
        return Series(field, Ready(power_series(field, tops, bottoms, thing.known)))

    def __mul__(self, other):
        if not isinstance(other, Moebius):
            return NotImplemented
        check_same_field(self, other)
        return Moebius(
            self.field,
            self.p * other.p + self.q * other.r, self.p * other.q + self.q * other.s,
            self.r * other.p + self.s * other.r, self.r * other.q + self.s * other.s,
        )

    def back(self):
        """The Moebius object that moves the images back."""
        return Moebius(self.field, self.s, -self.q, -self.r, self.p)


def raised(thing, poly):
    """The sum of a series or a fraction and a polynomial."""
    check_same_field(thing, poly)
    field = thing.field
    if field.number(_first(thing) + poly.coefficient(0)) == 0:
        raise NoImage("top")
    if isinstance(thing, Fraction):
        return Fraction(thing.top + poly * thing.bottom, Settled(thing.bottom))
    sums = added(thing.coefficients, poly.coefficients[:thing.known])
    return Series(field, Ready([field.number(each) for each in sums]))


def scaled_fraction(fraction, number):
    """The fraction in which x is replaced by number x."""
    field = fraction.field
    factor = field.number(number)
    if factor == 0:
        raise NoNumber()
    top = Poly(field, Ready(scaled_row(field, fraction.top.coefficients, factor)))
    return Fraction(top, Settled(Poly(field, Ready(scaled_row(field, fraction.bottom.coefficients, factor)))))


def _bent_poly(poly, line, degree):
    """The sum of all pk x ** k (1 + t x) ** (degree - k); the line is the pair of integers that 1 + t x stands for."""
    row, scale = whole(poly.field, poly.coefficients)
    # Each power of the line brings its own bottom, and so must each power of x that stands for one.
    bottoms = [1]
    for _ in range(degree):
        bottoms.append(bottoms[-1] * line[0])
    found = []
    for place in range(degree + 1):
        number = row[place] * bottoms[place] if place < len(row) else 0
        found = added(multiplied(found, line), [*[0 for _ in range(place)], number])
    return Poly(poly.field, Ready(numbers_of(poly.field, found, scale * bottoms[degree])))


def bent_fraction(fraction, number):
    """The fraction in which x is replaced by x / (1 + number x)."""
    field = fraction.field
    line, _ = whole(field, [field.number(1), field.number(number)])
    # With both degrees raised to the greater one, top and bottom still have nothing in common.
    degree = max(fraction.degrees[0], fraction.degrees[1])
    top = _bent_poly(fraction.top, line, degree)
    return Fraction(top, Settled(_bent_poly(fraction.bottom, line, degree)))


def _spread_row(field, row, step):
    zeros = [field.number(0) for _ in range(step - 1)]
    return Ready([number for each in row for number in (each, *zeros)])


def spread(thing, step):
    """The series or fraction in which x is replaced by x ** step."""
    if not is_from_to(step, 1, MOST_STEP):
        raise NoImage("step")
    field = thing.field
    if isinstance(thing, Fraction):
        top = Poly(field, _spread_row(field, thing.top.coefficients, step))
        return Fraction(top, Settled(Poly(field, _spread_row(field, thing.bottom.coefficients, step))))
    if thing.known * step > MOST_PASSED:
        raise NoImage("known")
    return Series(field, _spread_row(field, thing.coefficients, step))


def _prime_field(thing, prime):
    """The field of the prime, to which something exact is reduced; it raises OtherField and NoField."""
    if thing.field != Field():
        raise OtherField()
    field = Field(prime)
    if field.prime == 0:
        raise NoField()
    return field


def reduced(series, prime):
    """The series of the coefficients modulo the prime."""
    field = _prime_field(series, prime)
    numbers = taken(field, series.coefficients)
    if len(numbers) < series.known:
        raise NoReduction(len(numbers))
    if numbers[0] == 0:
        raise NoReduction(0)
    return Series(field, Ready(numbers))


def reduced_fraction(fraction, prime):
    """The fraction whose top and bottom have the coefficients modulo the prime."""
    field = _prime_field(fraction, prime)
    tops = taken(field, fraction.top.coefficients)
    bottoms = taken(field, fraction.bottom.coefficients)
    refused = []
    if len(tops) <= fraction.top.degree:
        refused.append(len(tops))
    if len(bottoms) <= fraction.bottom.degree:
        refused.append(len(bottoms))
    if len(refused) > 0:
        raise NoReduction(min(refused))
    top = Poly(field, Ready(tops))
    if top.degree < 0:
        raise NoReduction(-1)
    return Fraction(top, Poly(field, Ready(bottoms)))
