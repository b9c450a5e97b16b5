"""Point [41]."""

import inspect
import unittest

from cases import Case, fraction
from others import no_integers
from plain import PRIMES, Chance, Plain
from seriessquares import going
from seriessquares.errors import NoCount
from seriessquares.fields import Field
from seriessquares.going import going_on, unrolled
from seriessquares.polys import Poly
from seriessquares.ratios import Ratio
from seriessquares.rationals import Fraction

DEGREES = [(0, 0), (0, 1), (1, 0), (3, 0), (0, 3), (2, 5), (5, 2), (4, 4), (9, 1), (1, 9)]


def far(plain, top, bottom, index):
    """The coefficient at a far index, by a power of x modulo the bottom read from its other end."""
    whole, rest = plain.divided(top, bottom)
    wide = len(bottom) - 1
    value = whole[index] if index < len(whole) else 0
    if wide == 0:
        return plain.number(value)
    # A row of numbers goes on with c(k) = -(q1 c(k - 1) + ..), as x ** wide does modulo this.
    modulus = plain.trim(list(reversed(bottom)))
    power, square, left = [1], plain.divided([0, 1], modulus)[1], index
    while left > 0:
        if left % 2 == 1:
            power = plain.divided(plain.times(power, square), modulus)[1]
        square = plain.divided(plain.times(square, square), modulus)[1]
        left //= 2
    begin = plain.expanded(rest, bottom, wide)
    return plain.number(value + sum(a * c for a, c in zip(power, begin)))


def planted(prime):
    """Fractions of several degrees, some that begin with 0, as rows in lowest terms."""
    chance = Chance(prime, "going")
    for a, b in DEGREES:
        for zeros in (0, 1, 3):
            yield chance.plain, *chance.plain.lowest([0] * zeros + chance.bottom(a), chance.bottom(b))


class GoingCase(Case):

    def begins(self, plain, found, row):
        """Fail unless the coefficients go on from index 0 as the row does, by both calls."""
        got = list(unrolled(found, len(row)))
        self.numbers(plain, tuple(got), row)
        for index, expected in enumerate(row):
            self.number(plain, going_on(found, index), expected)


class NearTest(GoingCase):

    def test_against_multiplying_out(self):
        for prime in PRIMES:
            for plain, top, bottom in planted(prime):
                row = plain.expanded(top, bottom, 25)
                got = plain.times(bottom, row)
                self.assertEqual([*got, *[0] * 25][:25], [*top, *[0] * 25][:25])
                self.begins(plain, fraction(plain, top, bottom), row)

    def test_the_example(self):
        for prime in (0, 7):
            found = Fraction(Poly(Field(prime), [1]), Poly(Field(prime), [1, -1, -1]))
            self.begins(Plain(prime), found, Plain(prime).row([1, 1, 2, 3, 5, 8]))
        self.assertEqual(going_on(found, 5), 1)

    def test_fractions_that_begin_with_0(self):
        for prime in PRIMES:
            plain = Plain(prime)
            self.begins(plain, fraction(plain, [0, 0, 1], [1]), [0, 0, 1, 0, 0, 0])
            self.begins(plain, fraction(plain, [0, 1], [1, -1]), [0, 1, 1, 1, 1, 1])
            self.begins(plain, fraction(plain, [0, 1], [1, 0, -1]), [0, 1, 0, 1, 0, 1])

    def test_a_polynomial_goes_on_with_0(self):
        for prime in PRIMES:
            plain = Plain(prime)
            found = fraction(plain, [1, 0, 1], [1])
            self.begins(plain, found, plain.row([1, 0, 1, 0, 0]))
            self.number(plain, going_on(found, 2000), 0)
            if prime != 0:
                self.number(plain, going_on(found, 10 ** 12), 0)

    def test_fractions_of_many_coefficients(self):
        for prime in (0, 7, 9973):
            chance = Chance(prime, "many")
            plain = chance.plain
            top, bottom = [chance.number() for _ in range(100)], [1, *[chance.number() % 3 for _ in range(99)]]
            if prime == 0:
                top, bottom = [number.numerator for number in top], [1, *[number.numerator % 2 for number in bottom[1:]]]
            top, bottom = plain.lowest(plain.trim(top), plain.trim(bottom))
            row = plain.expanded(top, bottom, 130)
            found = fraction(plain, top, bottom)
            self.numbers(plain, tuple(unrolled(found, 130)), row)
            for index in (0, 1, 98, 99, 100, 129):
                self.number(plain, going_on(found, index), row[index])

    def test_bottoms_with_ratios(self):
        plain = Plain(0)
        for top, bottom in [([1], [1, Ratio(1, 2)]), ([Ratio(2, 3), 5], [1, Ratio(-1, 6), Ratio(3, 4)]),
                            ([0, Ratio(1, 7)], [1, 2, Ratio(5, 9), Ratio(1, 3)])]:
            top, bottom = plain.row(top), plain.row(bottom)
            self.begins(plain, fraction(plain, top, bottom), plain.expanded(top, bottom, 30))

    def test_long_numbers(self):
        for prime in (0, 101):
            chance = Chance(prime, "digits")
            plain = chance.plain
            top, bottom = plain.row([chance.long(), chance.long()]), plain.row([1, chance.long(), chance.long()])
            self.begins(plain, fraction(plain, top, bottom), plain.expanded(top, bottom, 8))


class FarTest(GoingCase):

    def test_far_indexes_modulo_a_prime(self):
        for prime in PRIMES[1:]:
            for plain, top, bottom in planted(prime):
                found = fraction(plain, top, bottom)
                for index in (57, 1000, 2001, 10 ** 6 + 1, 10 ** 12 - 1, 10 ** 12):
                    self.number(plain, going_on(found, index), far(plain, top, bottom, index))

    def test_the_tests_own_way(self):
        for prime in (2, 7):
            for plain, top, bottom in planted(prime):
                row = plain.expanded(top, bottom, 40)
                self.assertEqual([far(plain, top, bottom, index) for index in range(40)], row)

    def test_periods(self):
        for prime in PRIMES[1:]:
            for period in (1, 3, 64, 99):
                found = Fraction(Poly(Field(prime), [1]), Poly(Field(prime), [1, *[0] * (period - 1), -1]))
                for index in (0, period, 10 ** 12, 10 ** 12 - 10 ** 12 % period, 999999999999):
                    self.assertEqual(going_on(found, index), 1 if index % period == 0 else 0)

    def test_powers(self):
        for prime in (7, 101, 9973):
            found = Fraction(Poly(Field(prime), [1]), Poly(Field(prime), [1, -3]))
            for index in (0, 1, 2, 10 ** 9, 10 ** 12):
                self.assertEqual(going_on(found, index), pow(3, index, prime))

    def test_2000_over_exact_fractions(self):
        plain = Plain(0)
        half = fraction(plain, [1], [1, Ratio(-1, 2)])
        self.assertTrue(going_on(half, 2000) == Ratio(1, 2 ** 2000))
        fibonacci = [1, 1]
        while len(fibonacci) <= 2000:
            fibonacci.append(fibonacci[-1] + fibonacci[-2])
        found = fraction(plain, [1], [1, -1, -1])
        self.assertTrue(going_on(found, 2000) == fibonacci[2000])
        self.assertTrue(going_on(found, 1999) == fibonacci[1999])
        self.assertEqual([number.top for number in unrolled(found, 2000)], fibonacci[:2000])

    def test_2000_yielded_modulo_a_prime(self):
        for prime in (2, 9973):
            for plain, top, bottom in planted(prime):
                got = list(unrolled(fraction(plain, top, bottom), 2000))
                self.assertEqual(got, plain.expanded(top, bottom, 2000))


class CountTest(GoingCase):

    def test_indexes_that_are_refused(self):
        for prime in PRIMES:
            found = fraction(Plain(prime), [1, 1], [1, 0, 1, 1])
            greatest = 2000 if prime == 0 else 10 ** 12
            going_on(found, greatest)
            for index in [-1, greatest + 1, -10 ** 30, 10 ** 30, Ratio(2), *no_integers()]:
                with self.subTest(prime=prime, index=index):
                    self.refused(NoCount, None, going_on, found, index)

    def test_counts_that_are_refused(self):
        for prime in (0, 2, 9973):
            found = fraction(Plain(prime), [1, 1], [1, 0, 1, 1])
            self.assertEqual(len(list(unrolled(found, 2000))), 2000)
            for count in [-1, 2001, -10 ** 30, 10 ** 12, Ratio(2), *no_integers()]:
                with self.subTest(prime=prime, count=count):
                    self.refused(NoCount, None, list, unrolled(found, count))

    def test_refused_when_the_iteration_begins_and_not_before(self):
        found = fraction(Plain(7), [1, 1], [1, 0, 1, 1])
        for count in (-1, 2001, True, None, "5"):
            generator = unrolled(found, count)
            self.assertTrue(inspect.isgenerator(generator))
            with self.assertRaises(NoCount):
                next(generator)

    def test_exactly_as_many(self):
        for prime in (0, 2, 101):
            found = fraction(Plain(prime), [0, 1], [1, 0, -1])
            for count in (0, 1, 2, 5, 100):
                self.assertEqual(len([number for number in unrolled(found, count)]), count)

    def test_names_of_the_parameters(self):
        found = fraction(Plain(7), [1], [1, -3])
        self.assertEqual(going_on(index=2, fraction=found), 2)
        self.assertEqual(list(unrolled(count=3, fraction=found)), [1, 3, 2])
        self.is_fraction(Plain(7), found, [1], [1, 4])

    def test_two_iterations_do_not_disturb_each_other(self):
        found = fraction(Plain(7), [1], [1, -3])
        self.assertEqual(list(zip(unrolled(found, 4), unrolled(found, 4))), [(1, 1), (3, 3), (2, 2), (6, 6)])

    def test_the_functions_stand_in_their_module(self):
        for name in ("going_on", "unrolled"):
            self.assertEqual(getattr(going, name).__module__, "seriessquares.going")
        self.assertTrue(inspect.isgeneratorfunction(unrolled))


if __name__ == "__main__":
    unittest.main()
