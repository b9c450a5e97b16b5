"""Exact fractions of two integers."""

from math import gcd
from seriessquares.errors import NoRatio
from seriessquares.kinds import are_digits, is_an_integer

MOST_DIGITS_READ = 60


def is_number(value):
    """Whether the value is a `Ratio` or an integer."""
    return isinstance(value, Ratio) or is_an_integer(value)


def as_ratio(number):
    """The `Ratio` of the same value."""
    if isinstance(number, Ratio):
        return number
    return Ratio(number)


class Ratio:
    """An exact fraction in lowest terms, with a bottom of at least 1."""

    def __init__(self, top, bottom=1):
        if not is_an_integer(top):
            raise NoRatio("top")
        if not is_an_integer(bottom):
            raise NoRatio("bottom")
        if bottom == 0:
            raise NoRatio("zero")
        common = gcd(top, bottom)
        if bottom < 0:
            common = -common
        self.top = top // common
        self.bottom = bottom // common

    def __eq__(self, other):
        if isinstance(other, Ratio):
            return self.top == other.top and self.bottom == other.bottom
        return is_an_integer(other) and self.bottom == 1 and self.top == other

    def __add__(self, other):
        if not is_number(other):
            return NotImplemented
        right = as_ratio(other)
        return Ratio(self.top * right.bottom + right.top * self.bottom, self.bottom * right.bottom)

    def __radd__(self, other):
        if not is_number(other):
            return NotImplemented
        return self + other

    def __sub__(self, other):
        if not is_number(other):
            return NotImplemented
        right = as_ratio(other)
        return Ratio(self.top * right.bottom - right.top * self.bottom, self.bottom * right.bottom)

    def __rsub__(self, other):
        if not is_number(other):
            return NotImplemented
        return as_ratio(other) - self

    def __mul__(self, other):
        if not is_number(other):
            return NotImplemented
        right = as_ratio(other)
        return Ratio(self.top * right.top, self.bottom * right.bottom)

    def __rmul__(self, other):
        if not is_number(other):
            return NotImplemented
        return self * other

    def __neg__(self):
        return Ratio(-self.top, self.bottom)

    def over(self, other):
        """The quotient; it raises NoRatio("zero") if `other` is 0."""
        right = as_ratio(other)
        return Ratio(self.top * right.bottom, self.bottom * right.top)

    def text(self):
        """The digits of the top and, if the bottom is not 1, those of the bottom."""
        if self.bottom == 1:
            return str(self.top)
        return f"{self.top}/{self.bottom}"

    @staticmethod
    def read(text):
        """The Ratio of this text; it raises NoRatio("text") if there is none."""
        if not isinstance(text, str):
            raise NoRatio("text")
        top, slash, bottom = text.partition("/")
        if slash == "":
            bottom = "1"
        if not (are_digits(top.removeprefix("-"), MOST_DIGITS_READ) and are_digits(bottom, MOST_DIGITS_READ)):
            raise NoRatio("text")
        if int(bottom) == 0:
            raise NoRatio("text")
        found = Ratio(int(top), int(bottom))
        # Only one text is that of a value: "2/4", "03" and "-0" end here.
        if found.text() != text:
            raise NoRatio("text")
        return found
