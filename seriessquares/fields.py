"""What numbers are: exact fractions, or integers modulo a prime."""

from math import isqrt
from seriessquares.errors import NoField, NoNumber, OtherField
from seriessquares.kinds import is_an_integer
from seriessquares.ratios import Ratio, as_ratio, is_number

GREATEST_PRIME = 9973


def _is_prime(count):
    """Whether an integer of at least 2 is a prime."""
    for divisor in range(2, isqrt(count) + 1):
        if count % divisor == 0:
            return False
    return True


def check_same_field(one, other):
    """Raise OtherField unless the two objects have equal fields."""
    if one.field != other.field:
        raise OtherField()


def _inverse(number, prime):
    """What times the number is 1 modulo the prime; the number is from 1 to prime - 1."""
    high, low = prime, number
    # Each of high and low is its factor times the number, modulo the prime.
    high_factor, low_factor = 0, 1
    while low > 1:
        times = high // low
        high, low = low, high - times * low
        high_factor, low_factor = low_factor, high_factor - times * low_factor
    return low_factor % prime


class Field:
    """The exact fractions (prime 0), or the numbers modulo a prime."""

    def __init__(self, prime=0):
        if not is_an_integer(prime):
            raise NoField()
        if prime != 0 and not (2 <= prime <= GREATEST_PRIME and _is_prime(prime)):
            raise NoField()
        self.prime = prime

    def __eq__(self, other):
        return isinstance(other, Field) and self.prime == other.prime

    def number(self, value):
        """The number of the field that an integer or a Ratio stands for."""
        if not is_number(value):
            raise NoNumber()
        if self.prime == 0:
            return as_ratio(value)
        if isinstance(value, Ratio):
            return self.over(value.top, value.bottom)
        return value % self.prime

    def over(self, one, other):
        """The number whose product with `other` is `one`."""
        top = self.number(one)
        bottom = self.number(other)
        if bottom == 0:
            raise NoNumber()
        if self.prime == 0:
            return top.over(bottom)
        return top * _inverse(bottom, self.prime) % self.prime
