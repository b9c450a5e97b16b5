"""Points [45] to [48]."""

import unittest
from itertools import product

from cases import Case, fraction, passed, poly, ratio, series
from others import no_integers, other_things, refused_numbers
from plain import PRIMES, Chance, Plain, notable_rows
from seriessquares import images
from seriessquares.errors import NoField, NoImage, NoNumber, NoReduction, OtherField
from seriessquares.fields import Field
from seriessquares.images import (
    Moebius, bent_fraction, raised, reduced, reduced_fraction, scaled_fraction, spread, turned,
)
from seriessquares.polys import Poly
from seriessquares.ratios import Ratio
from seriessquares.rationals import Fraction
from seriessquares.series import Series
from seriessquares.squares import Square
from seriessquares.table import cell, is_sure, squares


def pairs(prime, seed):
    """Tops and bottoms of several degrees in lowest terms; some tops begin with 0."""
    chance = Chance(prime, seed)
    for a, b in [(0, 0), (1, 0), (0, 1), (2, 1), (1, 3), (4, 2), (3, 3)]:
        yield chance.plain.lowest(chance.bottom(a), chance.bottom(b))
        yield chance.plain.lowest([0, *chance.bottom(a)], chance.bottom(b))


def sure_pairs(one, other):
    """The pairs (m, n) of which the cells of both series are asked, and whether both are sure."""
    for m, n in product(range(min(one.known, 8) + 1), repeat=2):
        if is_sure(one, m, n) and is_sure(other, m, n):
            yield m, n


def by_substitution(plain, row, top, bottom, degree):
    """The sum of all row[k] top ** k bottom ** (degree - k)."""
    total = []
    for k, number in enumerate(row):
        term = [number]
        for factor in [*[top] * k, *[bottom] * (degree - k)]:
            term = plain.times(term, factor)
        total = plain.plus(total, term)
    return total


class TurnedTest(Case):

    def test_against_dividing_out(self):
        for prime in PRIMES:
            plain = Plain(prime)
            for row in notable_rows(prime):
                found = turned(series(plain, row))
                self.is_series(plain, found, plain.expanded([1], row, len(row)))
                product_row = plain.times(row, plain.row(found.coefficients))[:len(row)]
                self.assertEqual(plain.trim(product_row), [1])

    def test_turned_twice_is_the_series(self):
        for prime in PRIMES:
            for row in notable_rows(prime):
                known = series(Plain(prime), row)
                self.assertTrue(turned(turned(known)) == known)

    def test_squares_with_exchanged_corners(self):
        for prime in PRIMES:
            for row in notable_rows(prime):
                known = series(Plain(prime), row)
                expected = [Square(each.n, each.m, each.size, each.closed, each.fraction.turned())
                            for each in squares(known)]
                expected = sorted(expected, key=lambda each: (each.m + each.n, each.m))
                self.assertTrue(squares(turned(known)) == expected)

    def test_79_coefficients(self):
        for prime in PRIMES:
            chance = Chance(prime, "turned")
            row = chance.series(79) if prime != 0 else [1, *[chance.random.randint(-1, 1) for _ in range(78)]]
            self.is_series(chance.plain, turned(series(chance.plain, row)), chance.plain.expanded([1], row, 79))

    def test_names_of_the_parameters(self):
        known = Series(Field(7), [2, 1])
        self.is_series(Plain(7), turned(series=known), [4, 5])
        self.is_series(Plain(7), known, [2, 1])


TABLES = [(1, 0, 0, 1), (0, 1, 1, 0), (1, 1, 0, 1), (1, 0, 1, 1), (2, 1, 1, 1), (0, -1, 1, 3), (3, 2, 4, 5), (0, 1, -1, 0),
          (Ratio(1, 11), 1, 1, 0), (1, 4, 1, Ratio(3, 13))]


def moebius_tables(prime):
    """Tables of four numbers that are not flat, as (plain numbers, Moebius object)."""
    plain = Plain(prime)
    for table in TABLES:
        p, q, r, s = plain.row(table)
        if plain.number(p * s - q * r) != 0:
            yield (p, q, r, s), Moebius(Field(prime), *table)


class MoebiusTest(Case):

    def is_moebius(self, plain, found, table):
        """Fail unless `found` is the Moebius object of these four numbers."""
        self.assertIs(type(found), Moebius)
        self.assertTrue(found.field == plain.field)
        for number, expected in zip((found.p, found.q, found.r, found.s), table):
            self.number(plain, number, expected)

    def test_fields(self):
        for prime in PRIMES:
            plain = Plain(prime)
            for table, moebius in moebius_tables(prime):
                self.is_moebius(plain, moebius, table)
        found = Moebius(s=Ratio(1, 3), r=-1, q=9, p=7, field=Field(7))
        self.is_moebius(Plain(7), found, (0, 2, 6, 5))

    def test_no_number_before_flat(self):
        for prime in PRIMES:
            field = Field(prime)
            for wrong in refused_numbers(prime):
                for place in range(4):
                    for table in ([1, 0, 0, 1], [0, 0, 0, 0]):
                        table[place] = wrong
                        self.refused(NoNumber, None, Moebius, field, *table)

    def test_flat(self):
        for prime in PRIMES:
            for table in [(0, 0, 0, 0), (1, 1, 1, 1), (2, 4, 1, 2), (0, 1, 0, 5), (0, 0, 1, 1), (1, prime, 0, prime)]:
                self.refused(NoImage, "flat", Moebius, Field(prime), *table)
        self.refused(NoImage, "flat", Moebius, Field(7), 1, 2, 3, 13)
        self.refused(NoImage, "flat", Moebius, Field(), Ratio(1, 2), 1, 1, 2)
        Moebius(Field(), 1, 2, 3, 13)

    def test_images_of_series_against_dividing_out(self):
        for prime in PRIMES:
            plain = Plain(prime)
            for row in notable_rows(prime):
                for (p, q, r, s), moebius in moebius_tables(prime):
                    top = [plain.number(p * each) for each in row]
                    bottom = [plain.number(r * each) for each in row]
                    top[0], bottom[0] = plain.number(top[0] + q), plain.number(bottom[0] + s)
                    if top[0] == 0:
                        self.refused(NoImage, "top", moebius, series(plain, row))
                    elif bottom[0] == 0:
                        self.refused(NoImage, "bottom", moebius, series(plain, row))
                    else:
                        found = moebius(series(plain, row))
                        self.is_series(plain, found, plain.expanded(top, bottom, len(row)))

    def test_images_of_fractions_against_multiplying_out(self):
        for prime in PRIMES:
            plain = Plain(prime)
            for top, bottom in pairs(prime, "moebius"):
                for (p, q, r, s), moebius in moebius_tables(prime):
                    over = plain.plus(plain.times([p], top), plain.times([q], bottom))
                    under = plain.plus(plain.times([r], top), plain.times([s], bottom))
                    if plain.number(p * top[0] + q) == 0:
                        self.refused(NoImage, "top", moebius, fraction(plain, top, bottom))
                    elif plain.number(r * top[0] + s) == 0:
                        self.refused(NoImage, "bottom", moebius, fraction(plain, top, bottom))
                    else:
                        found = moebius(fraction(plain, top, bottom))
                        self.is_fraction(plain, found, over, under)

    def test_a_fraction_that_begins_with_0(self):
        plain = Plain(7)
        x = fraction(plain, [0, 1], [1])
        self.is_fraction(plain, Moebius(Field(7), 1, 2, 0, 1)(x), [2, 1], [1])
        self.refused(NoImage, "top", Moebius(Field(7), 1, 0, 0, 1), x)
        self.refused(NoImage, "bottom", Moebius(Field(7), 0, 1, 1, 0), x)

    def test_the_order_of_the_errors(self):
        for one, other in [(0, 7), (7, 0), (5, 7)]:
            # The image of 1 has the top 0 by the first table, and the bottom 0 by the second one.
            for table in [(1, -1, 1, 0), (1, 0, 1, -1), (1, 0, 0, 1)]:
                moebius = Moebius(Field(one), *table)
                self.refused(OtherField, None, moebius, Series(Field(other), [1]))
                self.refused(OtherField, None, moebius, fraction(Plain(other), [1], [1]))
        for prime in PRIMES:
            # Both cannot be 0, since the table is not flat.
            for thing in (Series(Field(prime), [1, 1]), fraction(Plain(prime), [1], [1, 1])):
                self.refused(NoImage, "top", Moebius(Field(prime), 1, -1, 1, 0), thing)
                self.refused(NoImage, "bottom", Moebius(Field(prime), 1, 0, 1, -1), thing)

    def test_the_product(self):
        for prime in PRIMES:
            plain = Plain(prime)
            for a, one in moebius_tables(prime):
                for b, other in moebius_tables(prime):
                    table = (a[0] * b[0] + a[1] * b[2], a[0] * b[1] + a[1] * b[3],
                             a[2] * b[0] + a[3] * b[2], a[2] * b[1] + a[3] * b[3])
                    self.is_moebius(plain, one * other, table)
                    kept = one
                    kept *= other
                    self.is_moebius(plain, kept, table)
                    self.is_moebius(plain, one, a)
                    self.is_moebius(plain, other, b)

    def test_the_product_of_other_fields(self):
        for one, other in [(0, 7), (7, 0), (5, 7)]:
            with self.assertRaises(OtherField):
                Moebius(Field(one), 1, 0, 0, 1) * Moebius(Field(other), 1, 0, 0, 1)

    def images(self, one, other, thing):
        """What both ways of moving the thing tell, None where one of them is refused."""
        try:
            return (one * other)(thing), one(other(thing))
        except NoImage:
            return None

    def test_the_product_moves_as_one_behind_the_other(self):
        for prime in PRIMES:
            plain = Plain(prime)
            things = [series(plain, row) for row in notable_rows(prime)[:9]]
            things += [fraction(plain, *pair) for pair in pairs(prime, "product")]
            for _, one in moebius_tables(prime):
                for _, other in moebius_tables(prime):
                    for thing in things[::3]:
                        found = self.images(one, other, thing)
                        if found is not None:
                            self.assertTrue(found[0] == found[1])

    def test_back(self):
        for prime in PRIMES:
            plain = Plain(prime)
            for (p, q, r, s), moebius in moebius_tables(prime):
                self.is_moebius(plain, moebius.back(), (s, -q, -r, p))
                for thing in [series(plain, row) for row in notable_rows(prime)[:9]]:
                    try:
                        found = moebius.back()(moebius(thing))
                    except NoImage:
                        continue
                    self.assertTrue(found == thing)
                for pair in pairs(prime, "back"):
                    try:
                        found = moebius.back()(moebius(fraction(plain, *pair)))
                    except NoImage:
                        continue
                    self.is_fraction(plain, found, *pair)

    def test_equality(self):
        one = Moebius(Field(7), 1, 2, 3, 4)
        self.same(one, Moebius(Field(7), 8, -5, Ratio(3), Ratio(8, 2)), True)
        for other in [Moebius(Field(7), 2, 2, 3, 4), Moebius(Field(7), 1, 3, 3, 4), Moebius(Field(7), 1, 2, 4, 4),
                      Moebius(Field(7), 1, 2, 3, 5), Moebius(Field(11), 1, 2, 3, 4), Moebius(Field(), 1, 2, 3, 4),
                      Moebius(Field(7), 2, 4, 6, 8), *other_things(), (1, 2, 3, 4)]:
            self.same(one, other, False)

    def test_cells_with_equal_degrees(self):
        for prime in PRIMES:
            plain = Plain(prime)
            for row in notable_rows(prime):
                known = series(plain, row)
                for _, moebius in list(moebius_tables(prime))[2:7]:
                    try:
                        image = moebius(known)
                    except NoImage:
                        continue
                    for m in range(len(row) + 1):
                        self.assertIs(is_sure(image, m, m), is_sure(known, m, m))
                        if is_sure(image, m, m):
                            self.assertTrue(cell(image, m, m) == moebius(cell(known, m, m)))

    def test_79_coefficients_and_names(self):
        for prime in (0, 9973):
            chance = Chance(prime, "79")
            row = [1, *[chance.random.randint(0, 1) for _ in range(78)]]
            moebius = Moebius(Field(prime), 1, 2, 1, 1)
            found = moebius(thing=series(chance.plain, row))
            self.assertEqual(found.known, 79)
            self.assertTrue(moebius.back()(found) == series(chance.plain, row))


class RaisedTest(Case):

    def rows(self, prime):
        chance = Chance(prime, "raised")
        return [[], [1], chance.poly(0), chance.poly(1), chance.poly(3), [0, 0, 1], chance.poly(12)]

    def test_series(self):
        for prime in PRIMES:
            plain = Plain(prime)
            for row in notable_rows(prime):
                for other in self.rows(prime):
                    total = [*plain.row([a + b for a, b in zip(row, [*other, *[0] * len(row)])])]
                    if total[0] == 0:
                        self.refused(NoImage, "top", raised, series(plain, row), poly(plain, other))
                    else:
                        self.is_series(plain, raised(series(plain, row), poly(plain, other)), total)

    def test_fractions(self):
        for prime in PRIMES:
            plain = Plain(prime)
            for top, bottom in pairs(prime, "raised"):
                for other in self.rows(prime):
                    over = plain.plus(top, plain.times(other, bottom))
                    if not over or over[0] == 0:
                        self.refused(NoImage, "top", raised, fraction(plain, top, bottom), poly(plain, other))
                    else:
                        self.is_fraction(plain, raised(fraction(plain, top, bottom), poly(plain, other)), over, bottom)

    def test_the_sum_that_is_nothing_and_a_top_that_becomes_fit(self):
        field = Field(7)
        self.refused(NoImage, "top", raised, Fraction(Poly(field, [2]), Poly(field, [1])), Poly(field, [5]))
        self.is_fraction(Plain(7), raised(Fraction(Poly(field, [0, 1]), Poly(field, [1])), Poly(field, [5])), [5, 1], [1])
        self.refused(NoImage, "top", raised, Fraction(Poly(field, [0, 1]), Poly(field, [1])), Poly(field, []))

    def test_other_field_comes_first(self):
        for one, other in [(0, 7), (7, 0), (5, 7)]:
            for row in ([], [-1], [1, 1]):
                self.refused(OtherField, None, raised, Series(Field(one), [1]), Poly(Field(other), row))
                self.refused(OtherField, None, raised, fraction(Plain(one), [1], [1]), Poly(Field(other), row))

    def test_cells_of_the_sum(self):
        for prime in PRIMES:
            plain = Plain(prime)
            for row in notable_rows(prime):
                known = series(plain, row)
                for other in ([1], [0, 1], [1, 2, 1]):
                    other = plain.trim(other)
                    if plain.number(row[0] + other[0]) == 0:
                        continue
                    total = raised(known, poly(plain, other))
                    for m, n in sure_pairs(total, known):
                        if m - n >= len(other) - 1:
                            self.assertTrue(cell(total, m, n) == raised(cell(known, m, n), poly(plain, other)))

    def test_names_of_the_parameters(self):
        known, line = Series(Field(7), [2, 1]), Poly(Field(7), [1, 1, 1])
        self.is_series(Plain(7), raised(poly=line, thing=known), [3, 2])
        self.is_series(Plain(7), known, [2, 1])
        self.is_poly(Plain(7), line, [1, 1, 1])

    def test_polynomials_of_more_coefficients_than_the_series(self):
        plain = Plain(0)
        long = poly(plain, [1] * 150)
        self.is_series(plain, raised(Series(Field(), [1, 2, 3]), long), [2, 3, 4])
        self.is_fraction(plain, raised(fraction(plain, [1], [1]), long), [2, *[1] * 149], [1])


NUMBERS = [0, 1, 2, -1, 3, Ratio(1, 11), Ratio(-5, 13)]


class SubstitutedTest(Case):

    def test_scaled_against_multiplying_out(self):
        for prime in PRIMES:
            plain = Plain(prime)
            for top, bottom in pairs(prime, "scaled"):
                for number in NUMBERS:
                    t = plain.number(number)
                    if t == 0:
                        self.refused(NoNumber, None, scaled_fraction, fraction(plain, top, bottom), number)
                        continue
                    over = [a * t ** k for k, a in enumerate(top)]
                    under = [a * t ** k for k, a in enumerate(bottom)]
                    found = scaled_fraction(fraction(plain, top, bottom), number)
                    self.is_fraction(plain, found, over, under)

    def test_scaled_by_0(self):
        for prime in PRIMES:
            for zero in [0, Ratio(0), prime, Ratio(-11 * prime)]:
                self.refused(NoNumber, None, scaled_fraction, fraction(Plain(prime), [1], [1, 1]), zero)

    def test_bent_against_multiplying_out(self):
        for prime in PRIMES:
            plain = Plain(prime)
            for top, bottom in pairs(prime, "bent"):
                degree = max(len(top), len(bottom)) - 1
                for number in NUMBERS:
                    t = plain.number(number)
                    over = by_substitution(plain, top, [0, 1], [1, t], degree)
                    under = by_substitution(plain, bottom, [0, 1], [1, t], degree)
                    found = bent_fraction(fraction(plain, top, bottom), number)
                    self.is_fraction(plain, found, over, under)

    def test_as_the_series_does(self):
        for prime in PRIMES:
            plain = Plain(prime)
            for top, bottom in pairs(prime, "as the series"):
                if top[0] == 0:
                    continue
                one = fraction(plain, top, bottom)
                for number in NUMBERS:
                    self.assertTrue(bent_fraction(one, number).series(15) == one.series(15).bent(number))
                    if plain.number(number) != 0:
                        self.assertTrue(scaled_fraction(one, number).series(15) == one.series(15).scaled(number))

    def test_no_number(self):
        for prime in PRIMES:
            for wrong in refused_numbers(prime):
                self.refused(NoNumber, None, scaled_fraction, fraction(Plain(prime), [1], [1, 1]), wrong)
                self.refused(NoNumber, None, bent_fraction, fraction(Plain(prime), [1], [1, 1]), wrong)

    def test_cells_of_the_scaled_and_the_bent_series(self):
        for prime in PRIMES:
            plain = Plain(prime)
            for row in notable_rows(prime):
                known = series(plain, row)
                for number in (1, 3, Ratio(2, 11)):
                    if plain.number(number) == 0:
                        continue
                    scaled, bent = known.scaled(number), known.bent(number)
                    for m, n in sure_pairs(scaled, known):
                        self.assertTrue(cell(scaled, m, n) == scaled_fraction(cell(known, m, n), number))
                        if m == n:
                            self.assertTrue(cell(bent, m, m) == bent_fraction(cell(known, m, m), number))

    def test_great_degrees(self):
        for prime in (0, 2, 9973):
            chance = Chance(prime, "great")
            plain = chance.plain
            pair = plain.lowest([chance.number() for _ in range(99)] + [1], [1, *[0] * 60, 1])
            one = fraction(plain, *pair)
            self.assertTrue(bent_fraction(bent_fraction(one, 2), -2) == one)
            if prime != 2:
                self.assertTrue(scaled_fraction(scaled_fraction(one, 2), Ratio(1, 2)) == one)

    def test_names_of_the_parameters(self):
        one = fraction(Plain(7), [1], [1, 1])
        self.is_fraction(Plain(7), scaled_fraction(number=9, fraction=one), [1], [1, 2])
        self.is_fraction(Plain(7), bent_fraction(number=9, fraction=one), [1, 2], [1, 3])
        self.is_fraction(Plain(7), one, [1], [1, 1])


class SpreadTest(Case):

    def spread_row(self, row, step):
        return [each for number in row for each in [number, *[0] * (step - 1)]]

    def test_series(self):
        for prime in PRIMES:
            plain = Plain(prime)
            for row in notable_rows(prime):
                for step in (1, 2, 3, 4):
                    if len(row) * step <= 32:
                        self.is_series(plain, spread(series(plain, row), step), self.spread_row(row, step))

    def test_fractions(self):
        for prime in PRIMES:
            plain = Plain(prime)
            for top, bottom in pairs(prime, "spread"):
                for step in (1, 2, 3, 4):
                    found = spread(fraction(plain, top, bottom), step)
                    self.is_fraction(plain, found, self.spread_row(top, step), self.spread_row(bottom, step))

    def test_steps_that_are_refused(self):
        for prime in (0, 7):
            things = [Series(Field(prime), [1, 2]), fraction(Plain(prime), [1], [1, 1]), series(Plain(prime), [1] * 79)]
            for thing in things:
                for step in [0, 5, -1, 10 ** 20, "2", Ratio(2), *no_integers()]:
                    self.refused(NoImage, "step", spread, thing, step)

    def test_32_coefficients_and_more(self):
        for prime in (0, 7):
            plain = Plain(prime)
            for known, step in product(range(1, 35), range(1, 5)):
                row = [1, *[0] * (known - 1)]
                if known * step <= 32:
                    self.is_series(plain, spread(series(plain, row), step), self.spread_row(row, step))
                else:
                    self.refused(NoImage, "known", spread, series(plain, row), step)

    def test_a_fraction_of_any_degree_is_spread(self):
        plain = Plain(7)
        one = fraction(plain, [1] * 90, [1, *[0] * 49, 1])
        self.is_fraction(plain, spread(one, 4), self.spread_row([1] * 90, 4), self.spread_row([1, *[0] * 49, 1], 4))

    def test_squares_of_the_spread_series(self):
        for prime in PRIMES:
            for row in notable_rows(prime):
                known = series(Plain(prime), row[:10])
                for step in (1, 2, 3):
                    expected = [Square(each.m * step, each.n * step, each.size * step, each.closed,
                                       spread(each.fraction, step)) for each in squares(known)]
                    self.assertTrue(squares(spread(known, step)) == expected)

    def test_names_of_the_parameters(self):
        known = Series(Field(7), [2, 1])
        self.is_series(Plain(7), spread(step=2, thing=known), [2, 0, 1, 0])
        self.is_series(Plain(7), known, [2, 1])


class ReducedTest(Case):

    def test_series_against_the_residues(self):
        for prime in PRIMES[1:]:
            plain = Plain(prime)
            for row in notable_rows(0):
                bad = [k for k, number in enumerate(row) if number.denominator % prime == 0]
                known = series(Plain(0), row)
                if bad:
                    self.refused(NoReduction, bad[0], reduced, known, prime)
                elif row[0].numerator % prime == 0:
                    self.refused(NoReduction, 0, reduced, known, prime)
                else:
                    self.is_series(plain, reduced(known, prime), plain.row(row))

    def test_fractions_against_the_residues(self):
        for prime in PRIMES[1:]:
            plain = Plain(prime)
            for top, bottom in pairs(0, "reduced"):
                one = fraction(Plain(0), top, bottom)
                bad = [k for row in (top, bottom) for k, number in enumerate(row) if number.denominator % prime == 0]
                if bad:
                    self.refused(NoReduction, min(bad), reduced_fraction, one, prime)
                elif not plain.trim(top):
                    self.refused(NoReduction, -1, reduced_fraction, one, prime)
                else:
                    self.is_fraction(plain, reduced_fraction(one, prime), plain.row(top), plain.row(bottom))

    def test_79_coefficients(self):
        chance = Chance(0, "79")
        row = [1, *[chance.random.randint(-50, 50) for _ in range(78)]]
        for prime in PRIMES[1:]:
            self.is_series(Plain(prime), reduced(series(Plain(0), row), prime), Plain(prime).row(row))

    def test_what_becomes_shorter(self):
        found = reduced_fraction(fraction(Plain(0), [1, 7], [1, 0, 14]), 7)
        self.is_fraction(Plain(7), found, [1], [1])
        # (1 + x) / (1 + 8 x) is 1 modulo 7.
        self.is_fraction(Plain(7), reduced_fraction(fraction(Plain(0), [1, 1], [1, 8]), 7), [1], [1])

    def test_other_field_comes_first(self):
        for prime in PRIMES[1:]:
            for wrong in (prime, 0, 4, None, "7", 9973):
                self.refused(OtherField, None, reduced, Series(Field(prime), [1]), wrong)
                self.refused(OtherField, None, reduced_fraction, fraction(Plain(prime), [1], [1]), wrong)

    def test_no_field_before_no_reduction(self):
        bad = Series(Field(), [Ratio(7, 2), Ratio(1, 3)])
        worse = fraction(Plain(0), [Ratio(7, 2)], [1, Ratio(1, 3)])
        for wrong in [0, 1, -7, 4, 9, 9974, 9967 * 2, 10007, 10 ** 20, "7", Ratio(7), *no_integers()]:
            self.refused(NoField, None, reduced, bad, wrong)
            self.refused(NoField, None, reduced_fraction, worse, wrong)

    def test_the_place_in_a_series(self):
        for prime in (2, 7, 9973):
            good, bad, zero = Ratio(1, 11 if prime != 11 else 13), Ratio(1, prime), Ratio(prime, 3)
            for row, place in [([bad, bad], 0), ([good, bad, bad], 1), ([good, good, bad], 2), ([zero, good], 0),
                               ([zero, good, bad], 2), ([bad, zero], 0)]:
                self.refused(NoReduction, place, reduced, Series(Field(), row), prime)

    def test_the_place_in_a_fraction(self):
        for prime in (2, 7, 9973):
            bad, zero = Ratio(1, prime), Ratio(prime)
            for top, bottom, place in [([bad], [1], 0), ([1, bad], [1], 1), ([1, 1], [1, 5, bad], 2),
                                       ([1, 1, bad], [1, bad], 1), ([1, bad], [1, 1, bad], 1), ([bad, bad], [1, bad], 0),
                                       ([zero], [1], -1), ([zero, zero], [1, 1], -1), ([zero], [1, bad], 1),
                                       ([0, zero], [1, 1, bad], 2), ([1, 1, 1, bad], [1], 3)]:
                one = Fraction(Poly(Field(), top), Poly(Field(), bottom))
                self.refused(NoReduction, place, reduced_fraction, one, prime)

    def test_a_top_that_begins_with_0(self):
        found = reduced_fraction(fraction(Plain(0), [7, 1], [1, 1]), 7)
        self.is_fraction(Plain(7), found, [0, 1], [1, 1])

    def test_cells_of_the_reduced_series(self):
        for prime in PRIMES[1:]:
            for row in notable_rows(0):
                known = series(Plain(0), row)
                try:
                    low = reduced(known, prime)
                except NoReduction:
                    continue
                for m, n in product(range(min(len(row), 8)), repeat=2):
                    if is_sure(known, m, n):
                        try:
                            found = reduced_fraction(cell(known, m, n), prime)
                        except NoReduction:
                            continue
                        self.assertIs(is_sure(low, m, n), True)
                        self.assertTrue(cell(low, m, n) == found)

    def test_names_of_the_parameters(self):
        known = Series(Field(), passed([8, Ratio(1, 3)]))
        self.is_series(Plain(7), reduced(prime=7, series=known), [1, 5])
        one = fraction(Plain(0), [8], [1, Ratio(1, 3)])
        self.is_fraction(Plain(7), reduced_fraction(prime=7, fraction=one), [1], [1, 5])
        self.number(Plain(0), known.coefficients[0], ratio(8))


class ListedTest(Case):

    def test_the_class_and_the_functions_stand_in_their_module(self):
        self.listed(Moebius, "seriessquares.images", ["__init__", "__eq__", "__call__", "__mul__", "back"])
        for name in ("turned", "raised", "scaled_fraction", "bent_fraction", "spread", "reduced", "reduced_fraction"):
            self.assertEqual(getattr(images, name).__module__, "seriessquares.images")


if __name__ == "__main__":
    unittest.main()
