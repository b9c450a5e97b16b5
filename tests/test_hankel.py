"""Points [33] to [35]."""

import unittest

import by_hand
from cases import Case, fraction, series
from others import no_integers
from plain import PRIMES, Chance, Plain, notable_rows
from seriessquares import hankel
from seriessquares.errors import NoCell, NotKnown
from seriessquares.fields import Field
from seriessquares.hankel import determinant, neighbours
from seriessquares.ratios import Ratio
from seriessquares.series import Series
from seriessquares.table import cell

NO_DEGREES = [-1, 41, -10 ** 20, 10 ** 20, "0", Ratio(2), *no_integers()]


class DeterminantTest(Case):

    def test_against_the_sum_over_permutations(self):
        for prime in PRIMES:
            chance = Chance(prime, "permutations")
            plain = chance.plain
            for row in [*notable_rows(prime), chance.series(9), chance.series(9)]:
                for m in range(len(row) + 1):
                    for n in range(1, min(5, len(row) - m + 1)):
                        value = by_hand.determinant(plain, by_hand.coefficient_table(row, m, n))
                        self.number(plain, determinant(series(plain, row), m, n), value)

    def test_against_elimination(self):
        for prime in PRIMES:
            chance = Chance(prime, "elimination")
            plain = chance.plain
            rows = [chance.series(79), [*chance.series(20), *[0] * 40, *chance.series(19)],
                    chance.plain.expanded(chance.bottom(5), chance.bottom(7), 79)]
            for row in rows:
                for m, n in [(0, 39), (39, 39), (20, 17), (5, 30), (39, 8), (7, 8), (6, 7), (5, 7)]:
                    value = by_hand.eliminated(plain, by_hand.coefficient_table(row, m, n))
                    self.number(plain, determinant(series(plain, row), m, n), value)

    def test_n_is_0(self):
        for prime in PRIMES:
            plain = Plain(prime)
            for row in ([1], [2 if prime != 2 else 1, 0, 1]):
                for m in (0, 1, 2, 39):
                    self.number(plain, determinant(series(plain, row), m, 0), 1)

    def test_m_is_0(self):
        for prime in PRIMES:
            chance = Chance(prime, "m is 0")
            row = chance.series(39)
            for n in (1, 2, 5, 39):
                value = chance.plain.number(row[0] ** n)
                self.number(chance.plain, determinant(series(chance.plain, row), 0, n), value)

    def test_one_row(self):
        for prime in PRIMES:
            chance = Chance(prime, "one row")
            row = chance.series(40)
            for m in range(40):
                self.number(chance.plain, determinant(series(chance.plain, row), m, 1), row[m])

    def test_rows_must_be_exchanged(self):
        for prime in PRIMES:
            plain = Plain(prime)
            for row in ([1, 0, 0, 1, 0, 1, 1], [1, 0, 0, 0, 1, 1, 0, 1], [1, 1, 0, 1, 0, 0, 1]):
                for m in range(1, len(row)):
                    for n in range(1, min(6, len(row) - m + 1)):
                        value = by_hand.determinant(plain, by_hand.coefficient_table(row, m, n))
                        self.number(plain, determinant(series(plain, row), m, n), value)

    def test_long_numbers(self):
        for prime in (0, 101):
            chance = Chance(prime, "digits")
            row = chance.plain.row([1, *[chance.long() for _ in range(5)]])
            for m, n in [(1, 1), (2, 2), (3, 3), (1, 4)]:
                value = by_hand.determinant(chance.plain, by_hand.coefficient_table(row, m, n))
                self.number(chance.plain, determinant(series(chance.plain, row), m, n), value)

    def test_the_greatest_that_is_let(self):
        for known in (1, 2, 5, 39, 78, 79):
            whole = series(Plain(7), [1] * known)
            for m in range(40):
                n = known - m
                if 1 <= n <= 39:
                    determinant(whole, m, n)
                    self.assertEqual(determinant(whole, m, 0), 1)
                if 0 <= n <= 38:
                    self.refused(NotKnown, known, determinant, whole, m, n + 1)

    def test_refusals_in_their_order(self):
        whole = Series(Field(), [1, 2])
        for wrong in [40, *NO_DEGREES]:
            with self.subTest(wrong=wrong):
                for n in (0, 1, 39, 40, None):
                    self.refused(NoCell, "m", determinant, whole, wrong, n)
                for m in (0, 1, 39):
                    self.refused(NoCell, "n", determinant, whole, m, wrong)
        self.refused(NotKnown, 2, determinant, whole, 39, 39)
        self.refused(NotKnown, 2, determinant, whole, 2, 1)
        self.refused(NotKnown, 1, determinant, Series(Field(7), [3]), 0, 2)

    def test_0_exactly_if_the_neighbours_are_the_same(self):
        for prime in PRIMES:
            for row in notable_rows(prime):
                known = series(Plain(prime), row)
                for m in range(1, len(row)):
                    for n in range(1, len(row) - m):
                        same = cell(known, m - 1, n - 1) == cell(known, m, n)
                        self.assertIs(determinant(known, m, n) == 0, same)

    def test_example_and_names(self):
        self.assertEqual(determinant(Series(Field(5), [1, 2, 3]), 1, 2), 1)
        self.assertEqual(determinant(n=2, m=1, series=Series(Field(5), [1, 2, 3])), 1)
        self.assertTrue(determinant(Series(Field(), [1, 2, 3]), 1, 2) == Ratio(1))


class NeighboursTest(Case):

    def test_against_all_known_cells(self):
        for prime in PRIMES:
            plain = Plain(prime)
            for row in notable_rows(prime):
                known = series(plain, row)
                for m in range(len(row)):
                    for n in range(len(row) - m - 1):
                        # One more coefficient tells the cell (m + 1, n + 1), whatever it is.
                        same = [by_hand.cell(plain, row, m, n) ==
                                by_hand.cell(plain, plain.row([*row[:m + n + 2], more]), m + 1, n + 1)
                                for more in (0, 1)]
                        self.assertEqual(same[0], same[1])
                        self.assertIs(neighbours(known, m, n), same[0])
                        self.assertIs(determinant(known, m + 1, n + 1) == 0, same[0])

    def test_bounds(self):
        for prime in (0, 7):
            plain = Plain(prime)
            for known in (2, 3, 10, 78, 79):
                whole = series(plain, [1] + [0] * (known - 1))
                for m in range(39):
                    n = known - 2 - m
                    if 0 <= n <= 38:
                        self.assertIs(neighbours(whole, m, n), True)
                    if 0 <= n <= 37:
                        self.refused(NotKnown, known, neighbours, whole, m, n + 1)
            self.assertIs(neighbours(series(plain, [1] + [0] * 38 + [1] + [0] * 38), 38, 38), False)
            self.assertIs(neighbours(series(plain, [1] + [0] * 77 + [1]), 38, 38), True)
            self.refused(NotKnown, 77, neighbours, series(plain, [1] * 77), 38, 38)
            self.refused(NotKnown, 1, neighbours, series(plain, [1]), 0, 0)

    def test_sure_cells_do_not_help(self):
        known = Series(Field(), [1, 0, 0, 0, 1])
        self.assertTrue(cell(known, 3, 3) == cell(known, 2, 2))
        self.refused(NotKnown, 5, neighbours, known, 2, 2)

    def test_no_cell(self):
        whole = Series(Field(), [1, 2])
        for wrong in [39, 40, *NO_DEGREES]:
            with self.subTest(wrong=wrong):
                for n in (0, 38, 39, None):
                    self.refused(NoCell, "m", neighbours, whole, wrong, n)
                for m in (0, 38):
                    self.refused(NoCell, "n", neighbours, whole, m, wrong)

    def test_by_name(self):
        found = fraction(Plain(7), [1], [1, 1]).series(9)
        self.assertIs(neighbours(n=1, m=0, series=found), True)
        self.assertIs(neighbours(found, 0, 0), False)


class ListedTest(Case):

    def test_the_functions_stand_in_their_module(self):
        for name in ("determinant", "neighbours"):
            self.assertEqual(getattr(hankel, name).__module__, "seriessquares.hankel")


if __name__ == "__main__":
    unittest.main()
