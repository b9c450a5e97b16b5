"""Euclid's algorithm on rows of integers, exact (prime 0) or modulo a prime.

A row stands for a polynomial up to a factor that is not 0, so no step needs a fraction or an inverse.
"""

from math import gcd
from seriessquares.rows import added, multiplied, trimmed

# Two polynomials that have nothing in common modulo a great prime have nothing in common at all, see below.
SIGHTING_PRIME = 2 ** 61 - 1


def content(row, prime):
    """The greatest common divisor of the integers; 1 modulo a prime, where nothing grows."""
    if prime != 0:
        return 1
    common = 0
    for each in row:
        common = gcd(common, each)
    return common


def shortened(row, prime):
    """The row divided by its content."""
    common = content(row, prime)
    return [each // common for each in row]


def shortened_pair(one, other, prime):
    """Two rows, divided by what all integers of both have in common."""
    common = content([*one, *other], prime)
    return trimmed([each // common for each in one], prime), trimmed([each // common for each in other], prime)


def division(high, low, prime):
    """(times, quotient, rest) with times * high = quotient * low + rest, a rest shorter than low, times not 0."""
    rest = trimmed(high, prime)
    quotient = [0 for _ in range(len(rest) - len(low) + 1)]
    steps = []
    while len(rest) >= len(low):
        place = len(rest) - len(low)
        common = gcd(low[-1], rest[-1])
        keep, take = low[-1] // common, rest[-1] // common
        steps.append((place, keep, take))
        shifted = [*[0 for _ in range(place)], *low]
        rest = trimmed([keep * one - take * other for one, other in zip(rest, shifted)], prime)
    times = 1
    # Each part of the quotient is multiplied by what the rests were multiplied by after it.
    for place, keep, take in reversed(steps):
        quotient[place] = take * times
        times = times * keep
    return times, quotient, rest


def _are_seen_apart(one, other):
    """Whether the rows show modulo a prime that they have nothing in common; False leaves it open."""
    seen = trimmed(one, SIGHTING_PRIME)
    # If the highest term goes, so may that of a common divisor.
    if len(seen) < len(one):
        return False
    return len(common_row(seen, trimmed(other, SIGHTING_PRIME), SIGHTING_PRIME)) == 1


def common_row(one, other, prime):
    """The greatest common divisor of two rows without zeros at the end, up to a factor; [] of two empty ones."""
    if prime == 0 and _are_seen_apart(one, other):
        return [1]
    high, low = shortened(one, prime), shortened(other, prime)
    while len(low) > 0:
        rest = division(high, low, prime)[2]
        high, low = low, shortened(rest, prime)
    return high


def coprime_rows(one, other, prime):
    """Two rows without zeros at the end, not both empty, divided by all that they have in common."""
    common = common_row(one, other, prime)
    times, quotient, _ = division(one, common, prime)
    other_times, other_quotient, _ = division(other, common, prime)
    return shortened_pair([each * other_times for each in quotient], [each * times for each in other_quotient], prime)


def rests(row, scale, prime):
    """The rests of x ** len(row) and the polynomial row / scale, which is not 0 at 0, one after the other.

    Each comes as a pair (rest, factor): modulo x ** len(row), the rest is the factor times the polynomial.
    """
    high, high_factor = [*[0 for _ in row], 1], []
    low, low_factor = trimmed(row, prime), [scale]
    while len(low) > 0:
        yield low, low_factor
        times, quotient, rest = division(high, low, prime)
        before = [times * each for each in high_factor]
        factor = added(before, multiplied([-each for each in quotient], low_factor))
        high, high_factor = low, low_factor
        low, low_factor = shortened_pair(rest, factor, prime)
