"""What the tests of several modules ask of an object or a call."""

import unittest

from seriessquares.polys import Poly
from seriessquares.ratios import Ratio
from seriessquares.rationals import Fraction
from seriessquares.series import Series


def ratio(number):
    """A number of the tests' own as it is passed to the package."""
    if isinstance(number, (int, Ratio)):
        return number
    return Ratio(number.numerator, number.denominator)


def passed(row):
    """A row of numbers of the tests' own as it is passed to the package."""
    return [ratio(number) for number in row]


def poly(plain, row):
    """The Poly of a row of the tests' own, which may be of any length."""
    found = Poly(plain.field, [])
    power = Poly(plain.field, [*[0] * 50, 1])
    for start in reversed(range(0, len(row), 50)):
        found = found * power + Poly(plain.field, passed(row[start:start + 50]))
    return found


def series(plain, row):
    """The Series of a row of the tests' own of up to 79 numbers."""
    return Series(plain.field, passed(row[:32])).then(passed(row[32:]))


def fraction(plain, top, bottom):
    """The Fraction of two rows of the tests' own."""
    return Fraction(poly(plain, top), poly(plain, bottom))


class Case(unittest.TestCase):

    def numbers(self, plain, found, row):
        """Fail unless `found` is the tuple of just these numbers, as numbers of the field."""
        self.assertIs(type(found), tuple)
        for number in found:
            self.number(plain, number)
        self.assertEqual([plain.number(number) for number in found], plain.row(row))

    def number(self, plain, found, value=None):
        """Fail unless `found` is a number of the field, and the given one."""
        if plain.prime == 0:
            self.assertIs(type(found), Ratio)
        else:
            self.assertIs(type(found), int)
            self.assertIn(found, range(plain.prime))
        if value is not None:
            self.assertEqual(plain.number(found), plain.number(value))

    def is_poly(self, plain, found, row):
        """Fail unless `found` is the polynomial of this row, with all its fields."""
        self.assertIs(type(found), Poly)
        row = plain.trim(row)
        self.assertTrue(found.field == plain.field)
        self.numbers(plain, found.coefficients, row)
        self.assertEqual(found.degree, len(row) - 1)
        self.assertIs(type(found.degree), int)

    def is_series(self, plain, found, row):
        """Fail unless `found` is the series of this row, with all its fields."""
        self.assertIs(type(found), Series)
        self.assertTrue(found.field == plain.field)
        self.numbers(plain, found.coefficients, row)
        self.assertEqual((found.known, len(found)), (len(row), len(row)))

    def is_fraction(self, plain, found, top, bottom):
        """Fail unless `found` is the fraction of these rows in lowest terms, with all its fields."""
        self.assertIs(type(found), Fraction)
        top, bottom = plain.lowest(plain.trim(top), plain.trim(bottom))
        self.assertTrue(found.field == plain.field)
        self.is_poly(plain, found.top, top)
        self.is_poly(plain, found.bottom, bottom)
        self.assertIs(type(found.degrees), tuple)
        self.assertEqual(found.degrees, (len(top) - 1, len(bottom) - 1))

    def refused(self, error, held, call, *args, **named):
        """Fail unless the call raises just this error, with the value `held` as its field (None: no field)."""
        with self.assertRaises(error) as caught:
            call(*args, **named)
        self.assertIs(type(caught.exception), error)
        fields = list(vars(caught.exception).values())
        self.assertEqual(fields, [] if held is None else [held])
        if held is not None:
            self.assertIs(type(fields[0]), type(held))

    def same(self, one, other, expected):
        """Fail unless == and != tell `expected` and its opposite, on both sides."""
        self.assertIs(one == other, expected)
        self.assertIs(other == one, expected)
        self.assertIs(one != other, not expected)
        self.assertIs(other != one, not expected)

    def listed(self, kind, module, names):
        """Fail unless the class stands in its module, derives from nothing and defines the names itself."""
        self.assertEqual(kind.__module__, module)
        self.assertEqual(kind.__bases__, (object,))
        for name in names:
            self.assertIn(name, vars(kind), name)
