"""Polynomials in x over a field."""

from seriessquares.errors import NoCount, NoPoly
from seriessquares.euclid import common_row, division
from seriessquares.fields import check_same_field
from seriessquares.kinds import is_a_sequence, is_an_integer
from seriessquares.ratios import is_number
from seriessquares.ready import Ready
from seriessquares.rows import added, multiplied, numbers_of, taken, whole


def _row(field, coefficients):
    """The numbers that a Poly is given; it raises NoPoly."""
    if isinstance(coefficients, Ready):
        return coefficients.row
    if not is_a_sequence(coefficients) or len(coefficients) > Poly.MOST:
        raise NoPoly(-1)
    numbers = taken(field, coefficients)
    if len(numbers) < len(coefficients):
        raise NoPoly(len(numbers))
    return numbers


def poly_of(field, row, bottom):
    """The polynomial whose coefficients are the integers over the bottom."""
    return Poly(field, Ready(numbers_of(field, row, bottom)))


def _is_operand(value):
    return isinstance(value, Poly) or is_number(value)


def _as_poly(field, operand):
    """The operand, a Poly or a number, as a polynomial; a Poly is checked by the caller."""
    if isinstance(operand, Poly):
        return operand
    return Poly(field, Ready([field.number(operand)]))


def gcd(one, other):
    """The monic greatest common divisor; nothing if both are nothing."""
    check_same_field(one, other)
    field = one.field
    row = common_row(whole(field, one.coefficients)[0], whole(field, other.coefficients)[0], field.prime)
    if len(row) == 0:
        return Poly(field, [])
    return poly_of(field, row, row[-1])


class Poly:
    """A polynomial; its coefficients stand from the power 0 on, without zeros at the end."""

    MOST = 100

    def __init__(self, field, coefficients):
        row = _row(field, coefficients)
        many = len(row)
        while many > 0 and row[many - 1] == 0:
            many = many - 1
        self.field = field
        self.coefficients = tuple(row[:many])
        self.degree = many - 1

    def __eq__(self, other):
        return isinstance(other, Poly) and self.field == other.field and self.coefficients == other.coefficients

    def coefficient(self, k):
        """The coefficient of the power `k`."""
        if not is_an_integer(k) or k < 0:
            raise NoCount()
        if k > self.degree:
            return self.field.number(0)
        return self.coefficients[k]

    def at(self, x):
        """The value at the number `x`."""
        number = self.field.number(x)
        value = self.field.number(0)
        for coefficient in reversed(self.coefficients):
            value = self.field.number(value * number + coefficient)
        return value

    def __call__(self, x):
        return self.at(x)

    def __add__(self, other):
        if not _is_operand(other):
            return NotImplemented
        right = _as_poly(self.field, other)
        check_same_field(self, right)
        sums = added(self.coefficients, right.coefficients)
        return Poly(self.field, Ready([self.field.number(each) for each in sums]))

    def __radd__(self, other):
        if not is_number(other):
            return NotImplemented
        return self + other

    def __sub__(self, other):
        if not _is_operand(other):
            return NotImplemented
        return self + -_as_poly(self.field, other)

    def __rsub__(self, other):
        if not is_number(other):
            return NotImplemented
        return -self + other

    def __mul__(self, other):
        if not _is_operand(other):
            return NotImplemented
        right = _as_poly(self.field, other)
        check_same_field(self, right)
        row, scale = whole(self.field, self.coefficients)
        right_row, right_scale = whole(self.field, right.coefficients)
        return poly_of(self.field, multiplied(row, right_row), scale * right_scale)

    def __rmul__(self, other):
        if not is_number(other):
            return NotImplemented
        return self * other

    def __neg__(self):
        return Poly(self.field, Ready([self.field.number(-each) for each in self.coefficients]))

    def divided(self, other):
        """The pair (quotient, rest)."""
        check_same_field(self, other)
        if other.degree < 0:
            raise NoPoly(-1)
        high, scale = whole(self.field, self.coefficients)
        low, low_scale = whole(self.field, other.coefficients)
        times, row, rest = division(high, low, self.field.prime)
        quotient = poly_of(self.field, [each * low_scale for each in row], times * scale)
        return quotient, poly_of(self.field, rest, times * scale)

    def __floordiv__(self, other):
        if not isinstance(other, Poly):
            return NotImplemented
        return self.divided(other)[0]

    def __mod__(self, other):
        if not isinstance(other, Poly):
            return NotImplemented
        return self.divided(other)[1]

    def monic(self):
        """The polynomial divided by its highest coefficient."""
        if self.degree < 0:
            return Poly(self.field, [])
        return self * self.field.over(1, self.coefficients[-1])
