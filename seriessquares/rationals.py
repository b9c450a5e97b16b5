"""Fractions of two polynomials that have a power series."""

from seriessquares.errors import NoCount, NoFraction
from seriessquares.fields import check_same_field
from seriessquares.kinds import is_from_to
from seriessquares.polys import Poly, gcd, poly_of
from seriessquares.ratios import is_number
from seriessquares.ready import Ready, Settled
from seriessquares.rows import first_miss, power_series
from seriessquares.series import MOST_KNOWN, Series


def _in_lowest_terms(top, bottom):
    """The top and the bottom without common divisors, the bottom 1 at 0; it raises OtherField and NoFraction."""
    check_same_field(top, bottom)
    if bottom.degree < 0:
        raise NoFraction("bottom")
    if top.degree < 0:
        raise NoFraction("top")
    common = gcd(top, bottom)
    low_bottom = bottom // common
    first = low_bottom.coefficient(0)
    if first == 0:
        raise NoFraction("pole")
    factor = top.field.over(1, first)
    return top // common * factor, low_bottom * factor


def fraction_of(field, top_row, bottom_row):
    """The fraction of two rows of integers with no common divisor; the bottom does not begin with 0."""
    top = poly_of(field, top_row, bottom_row[0])
    return Fraction(top, Settled(poly_of(field, bottom_row, bottom_row[0])))


def _is_operand(value):
    return isinstance(value, Fraction) or is_number(value)


def _parts(fraction, operand):
    """The top and the bottom of the operand, a fraction or a number, beside the fraction."""
    if isinstance(operand, Fraction):
        check_same_field(fraction, operand)
        return operand.top, operand.bottom
    field = fraction.field
    return Poly(field, Ready([field.number(operand)])), Poly(field, [1])


class Fraction:
    """A fraction in lowest terms whose bottom is 1 at 0."""

    def __init__(self, top, bottom):
        if isinstance(bottom, Settled):
            low_top, low_bottom = top, bottom.poly
        else:
            low_top, low_bottom = _in_lowest_terms(top, bottom)
        self.field = low_top.field
        self.top = low_top
        self.bottom = low_bottom
        self.degrees = (low_top.degree, low_bottom.degree)

    def __eq__(self, other):
        return isinstance(other, Fraction) and self.top == other.top and self.bottom == other.bottom

    def series(self, count):
        """The series of the first `count` coefficients."""
        if not is_from_to(count, 1, MOST_KNOWN):
            raise NoCount()
        if self.top.coefficient(0) == 0:
            raise NoFraction("first")
        row = power_series(self.field, self.top.coefficients, self.bottom.coefficients, count)
        return Series(self.field, Ready(row))

    def agreement(self, series):
        """The least index at which the fraction misses the series, or None."""
        check_same_field(self, series)
        return first_miss(self.field, self.top.coefficients, self.bottom.coefficients, series.coefficients)

    def __add__(self, other):
        if not _is_operand(other):
            return NotImplemented
        top, bottom = _parts(self, other)
        return Fraction(self.top * bottom + top * self.bottom, self.bottom * bottom)

    def __radd__(self, other):
        if not is_number(other):
            return NotImplemented
        return self + other

    def __sub__(self, other):
        if not _is_operand(other):
            return NotImplemented
        top, bottom = _parts(self, other)
        return Fraction(self.top * bottom - top * self.bottom, self.bottom * bottom)

    def __rsub__(self, other):
        if not is_number(other):
            return NotImplemented
        return -self + other

    def __mul__(self, other):
        if not _is_operand(other):
            return NotImplemented
        top, bottom = _parts(self, other)
        return Fraction(self.top * top, self.bottom * bottom)

    def __rmul__(self, other):
        if not is_number(other):
            return NotImplemented
        return self * other

    def __neg__(self):
        return Fraction(-self.top, Settled(self.bottom))

    def over(self, other):
        """The quotient by a fraction or a number."""
        top, bottom = _parts(self, other)
        return Fraction(self.top * bottom, self.bottom * top)

    def turned(self):
        """The fraction bottom over top."""
        return Fraction(self.bottom, self.top)
