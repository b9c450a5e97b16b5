"""Numbers, polynomials and power series in a way of the tests' own: Fractions of Python, or integers modulo a prime.

A polynomial is a list of numbers from the power 0 on, without zeros at the end.
"""

import random
from fractions import Fraction

from seriessquares.fields import Field
from seriessquares.ratios import Ratio

PRIMES = [0, 2, 3, 5, 7, 101, 9973]


class Plain:
    """Calculates over the exact fractions (prime 0) or modulo a prime."""

    def __init__(self, prime):
        self.prime = prime
        self.field = Field(prime)

    def number(self, value):
        """The number that an int, a Fraction or a Ratio stands for."""
        if isinstance(value, Ratio):
            value = Fraction(value.top, value.bottom)
        value = Fraction(value)
        if self.prime == 0:
            return value
        return value.numerator * pow(value.denominator, -1, self.prime) % self.prime

    def row(self, values):
        """The numbers of some values."""
        return [self.number(value) for value in values]

    def package(self, number):
        """The number as the package keeps it."""
        if self.prime == 0:
            return Ratio(number.numerator, number.denominator)
        return number

    def kept(self, values):
        """The tuple of numbers that the package keeps of some values."""
        return tuple(self.package(self.number(value)) for value in values)

    def inverse(self, number):
        if self.prime == 0:
            return 1 / Fraction(number)
        return pow(number, -1, self.prime)

    def trim(self, row):
        row = self.row(row)
        while row and row[-1] == 0:
            row.pop()
        return row

    def plus(self, one, other):
        many = max(len(one), len(other))
        one, other = [*one, *[0] * (many - len(one))], [*other, *[0] * (many - len(other))]
        return self.trim([a + b for a, b in zip(one, other)])

    def negative(self, one):
        return self.trim([-a for a in one])

    def minus(self, one, other):
        return self.plus(one, self.negative(other))

    def times(self, one, other):
        out = [0] * (len(one) + len(other))
        for i, a in enumerate(one):
            for j, b in enumerate(other):
                out[i + j] += a * b
        return self.trim(out)

    def divided(self, one, other):
        rest, other = self.trim(one), self.trim(other)
        quotient = [0] * max(0, len(rest) - len(other) + 1)
        while len(rest) >= len(other):
            place = len(rest) - len(other)
            quotient[place] = self.number(rest[-1] * self.inverse(other[-1]))
            rest = self.minus(rest, self.times([0] * place + [quotient[place]], other))
        return self.trim(quotient), rest

    def monic(self, one):
        return self.times(one, [self.inverse(one[-1])]) if one else []

    def gcd(self, one, other):
        one, other = self.trim(one), self.trim(other)
        while other:
            one, other = other, self.divided(one, other)[1]
        return self.monic(one)

    def value(self, one, x):
        return self.number(sum((a * x ** k for k, a in enumerate(one)), 0))

    def expanded(self, top, bottom, count):
        """The first coefficients of the power series top / bottom."""
        found = []
        for k in range(count):
            due = top[k] if k < len(top) else 0
            due -= sum(bottom[j] * found[k - j] for j in range(1, min(k + 1, len(bottom))))
            found.append(self.number(due * self.inverse(bottom[0])))
        return found

    def lowest(self, top, bottom):
        """Top and bottom without common divisors, the bottom 1 at 0."""
        common = self.gcd(top, bottom)
        top, bottom = self.divided(top, common)[0], self.divided(bottom, common)[0]
        factor = [self.inverse(bottom[0])]
        return self.times(top, factor), self.times(bottom, factor)


class Chance:
    """Numbers by chance, the same ones each time."""

    def __init__(self, prime, seed):
        self.plain = Plain(prime)
        self.random = random.Random(f"{prime} {seed}")

    def number(self):
        if self.plain.prime != 0:
            return self.random.randrange(self.plain.prime)
        return Fraction(self.random.randint(-9, 9), self.random.choice([1, 1, 1, 2, 3, 7]))

    def nonzero(self):
        found = self.number()
        while found == 0:
            found = self.number()
        return found

    def long(self):
        """A number of up to 40 digits above and below."""
        if self.plain.prime != 0:
            return self.random.randrange(-10 ** 40 + 1, 10 ** 40)
        return Fraction(self.random.randrange(-10 ** 40 + 1, 10 ** 40), self.random.randrange(1, 10 ** 40))

    def poly(self, degree):
        """A polynomial of just this degree."""
        return [] if degree < 0 else [*[self.number() for _ in range(degree)], self.nonzero()]

    def bottom(self, degree):
        """A polynomial of just this degree, not 0 at 0."""
        found = self.poly(degree)
        found[0] = self.nonzero()
        return found

    def series(self, count):
        """The first coefficients of a power series that does not begin with 0."""
        return [self.nonzero(), *[self.number() for _ in range(count - 1)]]


def notable_rows(prime):
    """First coefficients of power series with greater squares, long rows of zeros and early ends."""
    plain = Plain(prime)
    chance = Chance(prime, "notable")
    rows = [
        [1], [1, 0], [1, 1], [1, 0, 0, 0, 1], [1, 0, 0, 0, 0, 0, 0, 0], [1, 1, 1, 1, 1, 1], [1, 1, 0, 0, 0, 0, 0, 1],
        [1, 0, 0, 1, 0, 0, 0, 0, 0, 0, 1, 1], [1, 1, 2, 3, 5, 8, 13, 21], [1, 1, 2, 3, 5, 8, 13, 22, 1],
        [1, 0, 1, 0, 1, 0, 1, 0, 1, 1], [1, 2, 4, 8, 16, 32, 65, 1, 1],
        plain.expanded([1, 1, 0, 1], [1, 0, 0, 1, 1], 14), [*plain.expanded([1, 1], [1, 0, 1, 1], 11), 0],
        [*plain.expanded([1], [1, 0, 0, -1], 9), 0, 0, 0, 1],
        chance.series(8), chance.series(10), chance.series(11),
        [chance.nonzero(), 0, 0, chance.number(), 0, 0, 0, chance.number(), chance.number()],
    ]
    return [plain.row(row) for row in rows]
