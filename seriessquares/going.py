"""How the power series of a fraction goes on, near and far."""

from seriessquares.errors import NoCount
from seriessquares.kinds import is_from_to
from seriessquares.rows import multiplied, whole

FARTHEST = 10 ** 12
MOST_UNROLLED = 2000


def _terms(fraction, count):
    """The first coefficients, each as a pair: an integer, and the bottom under it."""
    prime = fraction.field.prime
    tops, top_scale = whole(fraction.field, fraction.top.coefficients)
    row, base = whole(fraction.field, fraction.bottom.coefficients)
    # With top_scale * base ** k under the coefficient of index k, the integers follow from each other without a
    # division: the row begins with the base, since the bottom is 1 at 0.
    factors, power = [], 1
    for each in row[1:]:
        factors.append(each * power)
        power = power * base
    last, power = [], 1
    for index in range(count):
        value = tops[index] * power if index < len(tops) else 0
        value = value - sum([one * other for one, other in zip(factors, last)])
        if prime != 0:
            value = value % prime
        yield value, top_scale * power
        last = [value, *last][:len(factors)]
        power = power * base


def unrolled(fraction, count):
    """The first `count` coefficients of the power series, one after the other."""
    if not is_from_to(count, 0, MOST_UNROLLED):
        raise NoCount()
    for value, scale in _terms(fraction, count):
        yield fraction.field.over(value, scale)


def _far(top, bottom, index, prime):
    """The coefficient of the power series top / bottom modulo a prime; the bottom begins with 1 (Bostan and Mori)."""
    while index > 0:
        # Times bottom(-x), the bottom has no odd powers, so that the powers of the other kind go from the top.
        mirrored = [-each if k & 1 == 1 else each for k, each in enumerate(bottom)]
        top = [each % prime for each in multiplied(top, mirrored)[index & 1::2]]
        bottom = [each % prime for each in multiplied(bottom, mirrored)[::2]]
        index = index // 2
    return [*top, 0][0]


def going_on(fraction, index):
    """The coefficient at the index of the power series."""
    prime = fraction.field.prime
    if not is_from_to(index, 0, MOST_UNROLLED if prime == 0 else FARTHEST):
        raise NoCount()
    if prime != 0:
        return _far(fraction.top.coefficients, fraction.bottom.coefficients, index, prime)
    value, scale = 0, 1
    many = index + 1
    for pair in _terms(fraction, many):
        value, scale = pair
    return fraction.field.over(value, scale)
