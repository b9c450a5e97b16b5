"""Points [38] and [39]."""

import unittest
from itertools import product

import by_hand
from cases import Case, fraction, series
from others import no_integers
from plain import PRIMES, Chance, Plain, notable_rows
from seriessquares import finding
from seriessquares.errors import NoCell, NotKnown
from seriessquares.fields import Field
from seriessquares.finding import barred_at, fitting, how_many, simplest
from seriessquares.polys import Poly
from seriessquares.ratios import Ratio
from seriessquares.rationals import Fraction
from seriessquares.series import Series
from seriessquares.table import is_sure

NO_DEGREES = [-1, 40, 41, -10 ** 20, 10 ** 20, "0", Ratio(2), *no_integers()]
CALLS = [how_many, fitting, barred_at]


def every_row(prime, known):
    """All rows of this length that do not begin with 0."""
    return [list(row) for row in product(range(prime), repeat=known) if row[0] != 0]


def shared(one, other):
    """How many numbers two rows have in common from the first one on."""
    return next((k for k, (a, b) in enumerate(zip(one, other)) if a != b), len(one))


class FittingTest(Case):

    def holds(self, plain, row, m, n, many, pair, barred):
        """Fail unless the three calls tell this: how many fit, the only one that does, and what bars them."""
        known = series(plain, row)
        found = how_many(known, m, n)
        self.assertIs(type(found), int)
        self.assertEqual(found, many, (plain.prime, row, m, n))
        if many == 2:
            self.refused(NotKnown, len(row), fitting, known, m, n)
            self.refused(NotKnown, len(row), barred_at, known, m, n)
        elif many == 1:
            self.is_fraction(plain, fitting(known, m, n), *pair)
            self.assertIsNone(barred_at(known, m, n))
        else:
            self.assertIsNone(fitting(known, m, n))
            self.assertIs(type(barred_at(known, m, n)), int)
            self.assertEqual(barred_at(known, m, n), barred)

    def test_against_all_pairs_of_polynomials(self):
        for prime, greatest, lengths in [(2, 3, (1, 3, 5, 6)), (3, 2, (1, 2, 4)), (5, 1, (1, 2, 3))]:
            plain = Plain(prime)
            for known in lengths:
                for m, n in product(range(greatest + 1), repeat=2):
                    told = by_hand.all_fractions(plain, m, n, known)
                    for row in every_row(prime, known):
                        fits = [pair for pair, numbers in told.items() if numbers == row]
                        barred = max(shared(numbers, row) for numbers in told.values())
                        self.holds(plain, row, m, n, min(2, len(fits)), fits[0] if fits else None, barred)

    def test_against_the_squares_by_hand(self):
        for prime in PRIMES:
            plain = Plain(prime)
            for row in notable_rows(prime):
                told = by_hand.known_squares(plain, row)
                for m, n in product(range(len(row) + 2), repeat=2):
                    home = [each for each in told if 0 <= m - each[0] < each[2] and 0 <= n - each[1] < each[2]]
                    self.assertIs(is_sure(series(plain, row), m, n), len(home) == 1)
                    if not home:
                        self.holds(plain, row, m, n, 2, None, None)
                        continue
                    miss = by_hand.agreement(plain, home[0][4], row)
                    self.holds(plain, row, m, n, 1 if miss is None else 0, home[0][4], miss)

    def test_planted_fractions(self):
        for prime in PRIMES:
            chance = Chance(prime, "planted")
            plain = chance.plain
            top, bottom = chance.bottom(3), chance.bottom(2)
            top, bottom = plain.lowest(top, bottom)
            a, b = len(top) - 1, len(bottom) - 1
            row = plain.expanded(top, bottom, 20)
            self.holds(plain, row, a, b, 1, (top, bottom), None)
            self.holds(plain, row, 9, 9, 1, (top, bottom), None)
            self.holds(plain, row, a + 19 - a - b, b + 19 - a - b, 1, (top, bottom), None)
            self.holds(plain, row, a + 20 - a - b, b, 2, None, None)
            row[17] = plain.number(row[17] + 1)
            self.holds(plain, row, a, b, 0, None, 17)
            self.holds(plain, row, a + 16 - a - b, b + 16 - a - b, 0, None, 17)

    def test_the_example(self):
        known = Series(Field(), [1, 0, 1])
        self.assertEqual(how_many(known, 1, 1), 0)
        self.assertIsNone(fitting(known, 1, 1))
        self.assertEqual(barred_at(known, 1, 1), 2)

    def test_the_example_of_the_desk(self):
        known = Series(Field(), [1, 1, Ratio(1, 2), 0])
        self.assertEqual((how_many(known, 1, 1), fitting(known, 1, 1), barred_at(known, 1, 1)), (0, None, 3))

    def test_one_known_coefficient(self):
        for prime in PRIMES:
            plain = Plain(prime)
            self.holds(plain, plain.row([1]), 0, 0, 1, ([1], [1]), None)
            for m, n in [(0, 1), (1, 0), (39, 39), (0, 39), (39, 0)]:
                self.holds(plain, plain.row([1]), m, n, 2, None, None)

    def test_the_greatest_degrees(self):
        for prime in PRIMES:
            chance = Chance(prime, "greatest")
            plain = chance.plain
            pair = plain.lowest(chance.bottom(20), chance.bottom(25))
            row = plain.expanded(*pair, 79)
            self.holds(plain, row, 39, 39, 1, pair, None)
            row[78] = plain.number(row[78] + 1)
            self.holds(plain, row, 30, 30, 0, None, 78)
            row = plain.row([1] + [0] * 78)
            for m, n in [(0, 0), (39, 39), (39, 0), (0, 39)]:
                self.holds(plain, row, m, n, 1, ([1], [1]), None)

    def test_refused_degrees(self):
        known = Series(Field(7), [1, 2, 3])
        for call in CALLS:
            for wrong in NO_DEGREES:
                with self.subTest(call=call, wrong=wrong):
                    self.refused(NoCell, "m", call, known, wrong, 1)
                    self.refused(NoCell, "n", call, known, 1, wrong)
                    self.refused(NoCell, "m", call, known, wrong, None)
                    self.refused(NoCell, "m", call, known, wrong, wrong)

    def test_degrees_come_before_what_is_not_known(self):
        known = Series(Field(7), [1, 2, 3])
        for call in (fitting, barred_at):
            self.refused(NotKnown, 3, call, known, 39, 39)
            self.refused(NoCell, "n", call, known, 39, 40)
            self.refused(NoCell, "m", call, known, 40, 39)
        self.assertEqual(how_many(known, 39, 39), 2)

    def test_names_of_the_parameters(self):
        known = Series(Field(7), [1, 2, 3])
        self.assertEqual(how_many(n=0, m=2, series=known), 1)
        self.is_fraction(Plain(7), fitting(n=0, m=2, series=known), [1, 2, 3], [1])
        self.assertEqual(barred_at(n=0, m=1, series=known), 2)
        self.assertTrue(simplest(series=known) == simplest(known))
        self.is_series(Plain(7), known, [1, 2, 3])


class SimplestTest(Case):

    def by_hand(self, plain, row):
        """The first fraction that fits: by the sum of the degrees, then by that of the bottom."""
        for total in range(len(row)):
            for b in range(total + 1):
                pair = by_hand.cell(plain, row, total - b, b)
                if by_hand.agreement(plain, pair, row) is None:
                    return pair

    def test_against_all_pairs_of_polynomials(self):
        for prime, known in [(2, 1), (2, 4), (3, 3), (5, 2)]:
            plain = Plain(prime)
            told = by_hand.all_fractions(plain, known - 1, known - 1, known)
            for row in every_row(prime, known):
                fits = [pair for pair, numbers in told.items() if numbers == row]
                pair = min(fits, key=lambda each: (len(each[0]) + len(each[1]), len(each[1])))
                self.is_fraction(plain, simplest(series(plain, row)), *pair)

    def test_against_the_cells_by_hand(self):
        for prime in PRIMES:
            plain = Plain(prime)
            for row in notable_rows(prime):
                for known in range(1, len(row) + 1):
                    found = simplest(series(plain, row[:known]))
                    self.is_fraction(plain, found, *self.by_hand(plain, row[:known]))
                    self.assertIsNone(found.agreement(series(plain, row[:known])))
                    self.assertLess(sum(found.degrees), known)

    def test_planted_fractions(self):
        for prime in PRIMES:
            chance = Chance(prime, "simplest")
            for a, b in [(0, 0), (3, 0), (0, 3), (2, 5), (5, 2), (15, 16), (0, 30), (30, 0)]:
                top, bottom = chance.plain.lowest(chance.bottom(a), chance.bottom(b))
                for known in (a + b + max(a, b) + 1, 79):
                    row = chance.plain.expanded(top, bottom, known)
                    self.is_fraction(chance.plain, simplest(series(chance.plain, row)), top, bottom)

    def test_the_smaller_bottom_of_two(self):
        for prime in PRIMES:
            plain = Plain(prime)
            self.is_fraction(plain, simplest(series(plain, [1, 0, 0, 0, 1])), [1, 0, 0, 0, 1], [1])
            self.is_fraction(plain, simplest(series(plain, [1, 1])), [1, 1], [1])
            self.is_fraction(plain, simplest(series(plain, [1, 1, 1])), [1], [1, -1])

    def test_the_example(self):
        found = simplest(Series(Field(), [1, 1, Ratio(1, 2), 0]))
        self.assertTrue(found == Fraction(Poly(Field(), [1, 1, Ratio(1, 2)]), Poly(Field(), [1])))

    def test_long_series_by_chance(self):
        for prime in PRIMES:
            chance = Chance(prime, "long")
            row = chance.series(79 if prime != 0 else 40)
            found = simplest(series(chance.plain, row))
            self.assertIsNone(found.agreement(series(chance.plain, row)))
            a, b = found.degrees
            self.assertLess(a + b, len(row))
            # A fraction with a smaller sum, or a smaller bottom, would be this one.
            for m, n in [(a - 1, b), (a, b - 1), (a + 1, b - 1)]:
                if 0 <= m < 40 and 0 <= n < 40:
                    self.assertIsNone(fitting(series(chance.plain, row), m, n))

    def test_zeros_behind_the_first_coefficient(self):
        for prime in PRIMES:
            plain = Plain(prime)
            for known in (1, 2, 32, 79):
                self.is_fraction(plain, simplest(series(plain, [1] + [0] * (known - 1))), [1], [1])

    def test_long_numbers(self):
        chance = Chance(0, "digits")
        row = [1, *[chance.long() for _ in range(4)]]
        self.is_fraction(chance.plain, simplest(series(chance.plain, row)), row, [1])
        top, bottom = chance.plain.lowest([1, chance.long()], [1, chance.long(), chance.long()])
        row = chance.plain.expanded(top, bottom, 9)
        known = fraction(chance.plain, top, bottom).series(9)
        self.numbers(chance.plain, known.coefficients, row)
        self.is_fraction(chance.plain, simplest(known), top, bottom)


class ListedTest(unittest.TestCase):

    def test_the_functions_stand_in_their_module(self):
        for name in ("how_many", "fitting", "barred_at", "simplest"):
            self.assertEqual(getattr(finding, name).__module__, "seriessquares.finding")


if __name__ == "__main__":
    unittest.main()
