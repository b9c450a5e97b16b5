"""Points [25] to [27] and [29] to [32], and what point [2] says of the table."""

import unittest
from itertools import product

import by_hand
from cases import Case, fraction, series
from others import no_integers, other_things
from plain import PRIMES, Chance, Plain, notable_rows
from seriessquares import table
from seriessquares.errors import NoCell, NotKnown
from seriessquares.fields import Field
from seriessquares.polys import Poly
from seriessquares.ratios import Ratio
from seriessquares.rationals import Fraction
from seriessquares.series import Series
from seriessquares.squares import Square
from seriessquares.table import cell, check_cell, check_square, is_sure, square_of, squares, twins

SMALL = [0, 2, 3, 5]
NO_DEGREES = [-1, 40, 41, -10 ** 20, 10 ** 20, "0", Ratio(2), *no_integers()]
CALLS = [cell, is_sure, square_of, twins]


def every_row(prime, known):
    """All rows of this length that do not begin with 0."""
    return [list(row) for row in product(range(prime), repeat=known) if row[0] != 0]


def as_square(plain, told):
    """The Square of what by_hand tells of it."""
    m, n, size, closed, pair = told
    return Square(m, n, size, closed, fraction(plain, *pair))


class TableCase(Case):

    def is_square(self, plain, found, told):
        """Fail unless `found` is the square that by_hand tells, with fields of the right kinds."""
        self.assertIs(type(found), Square)
        for number, expected in zip((found.m, found.n, found.size), told):
            self.assertIs(type(number), int)
            self.assertEqual(number, expected)
        self.assertIs(found.closed, told[3])
        self.is_fraction(plain, found.fraction, *told[4])


class CellTest(TableCase):

    def test_against_the_linear_equations(self):
        for prime in PRIMES:
            plain = Plain(prime)
            for row in notable_rows(prime):
                for m in range(len(row)):
                    for n in range(len(row) - m):
                        found = cell(series(plain, row), m, n)
                        self.is_fraction(plain, found, *by_hand.cell(plain, row, m, n))
                        self.assertIs(is_sure(series(plain, row), m, n), True)

    def test_every_short_series(self):
        for prime, known in [(2, 6), (3, 4), (5, 3)]:
            plain = Plain(prime)
            for row in every_row(prime, known):
                for m in range(known):
                    for n in range(known - m):
                        found = cell(series(plain, row), m, n)
                        self.is_fraction(plain, found, *by_hand.cell(plain, row, m, n))

    def test_the_definition(self):
        for prime in (0, 2, 7):
            chance = Chance(prime, "definition")
            for row in [chance.series(32), [*chance.series(9), *[0] * 23], [1, *[0] * 20, *chance.series(11)]]:
                known = series(chance.plain, row)
                for m, n in [(0, 31), (31, 0), (15, 16), (16, 15), (10, 3), (3, 10), (0, 0), (8, 8), (20, 11)]:
                    found = cell(known, m, n)
                    a, b = found.degrees
                    self.assertTrue(0 <= a <= m and 0 <= b <= n)
                    # Multiplied by a power of x, top and bottom keep their degrees and solve the equations.
                    miss = found.agreement(known)
                    self.assertTrue(miss is None or miss + min(m - a, n - b) > m + n)

    def test_degrees_smaller_than_the_pair_and_an_early_miss(self):
        for prime in SMALL:
            known = Series(Field(prime), [1, 0, 0, 0, 1])
            for m in range(4):
                for n in range(4):
                    found = cell(known, m, n)
                    self.is_fraction(Plain(prime), found, [1], [1])
                    self.assertEqual((found.degrees, found.agreement(known)), ((0, 0), 4))
            found = cell(Series(Field(prime), [1, 1, 1, 1, 0]), 2, 1)
            self.assertEqual((found.degrees, found.agreement(Series(Field(prime), [1, 1, 1, 1, 0]))), ((0, 1), 4))

    def test_sure_cells_beyond_the_known_total(self):
        for prime in SMALL:
            plain = Plain(prime)
            for row in notable_rows(prime):
                told = by_hand.known_squares(plain, row)
                known = series(plain, row)
                for m in range(len(row) + 2):
                    for n in range(len(row) + 2):
                        home = [each for each in told
                                if 0 <= m - each[0] < each[2] and 0 <= n - each[1] < each[2]]
                        self.assertIs(is_sure(known, m, n), len(home) == 1)
                        if home:
                            self.is_fraction(plain, cell(known, m, n), *home[0][4])
                            self.is_square(plain, square_of(known, m, n), home[0])
                        else:
                            self.refused(NotKnown, len(row), cell, known, m, n)
                            self.refused(NotKnown, len(row), square_of, known, m, n)

    def test_both_39_for_79_coefficients(self):
        for prime in PRIMES:
            chance = Chance(prime, "79")
            plain = chance.plain
            top, bottom = chance.bottom(20), chance.bottom(25)
            known = fraction(plain, top, bottom).series(79)
            self.is_fraction(plain, cell(known, 39, 39), top, bottom)
            self.assertIs(is_sure(known, 39, 39), True)
            self.assertIs(check_cell(known, 39, 39, fraction(plain, top, bottom)), True)
            self.assertIsNone(twins(known, 39, 39))
            self.assertTrue(square_of(known, 39, 39).fraction == fraction(plain, top, bottom))
            known = series(plain, [1] + [0] * 77 + [1])
            self.is_fraction(plain, cell(known, 39, 39), [1], [1])
            self.is_fraction(plain, cell(known, 0, 39), [1], [1])
            known = series(plain, chance.series(79))
            found = cell(known, 39, 39)
            a, b = found.degrees
            miss = found.agreement(known)
            self.assertTrue(miss is None or miss + min(39 - a, 39 - b) > 78)

    def test_long_numbers(self):
        for prime in (0, 9973):
            chance = Chance(prime, "digits")
            row = chance.plain.row([1, *[chance.long() for _ in range(5)]])
            for m, n in [(0, 5), (2, 3), (3, 2), (1, 1), (5, 0)]:
                found = cell(series(chance.plain, row), m, n)
                self.is_fraction(chance.plain, found, *by_hand.cell(chance.plain, row, m, n))

    def test_examples(self):
        found = cell(Series(Field(0), [1, 1, 2]), 1, 1)
        self.assertEqual([found.top == Poly(Field(0), [1, -1]), found.bottom == Poly(Field(0), [1, -2])], [True, True])
        found = squares(Series(Field(2), [1, 0, 0, 0, 1]))
        told = [len(found), found[0].m, found[0].n, found[0].size, found[0].closed, found[1].n, found[1].closed,
                found[2].m]
        self.assertEqual(told, [3, 0, 0, 4, True, 4, False, 4])
        self.refused(NotKnown, 5, cell, Series(Field(2), [1, 0, 0, 0, 1]), 4, 1)


class NoCellTest(TableCase):

    def test_m_comes_first(self):
        known = Series(Field(7), [1, 2])
        for wrong in NO_DEGREES:
            for other in (0, 39, 40, None, -1, True):
                with self.subTest(wrong=wrong, other=other):
                    for call in CALLS:
                        self.refused(NoCell, "m", call, known, wrong, other)
                    self.refused(NoCell, "m", check_cell, known, wrong, other, cell(known, 0, 0))
                    self.refused(NoCell, "m", check_cell, known, wrong, other, None)

    def test_n_comes_before_not_known(self):
        known = Series(Field(), [1, 2])
        for wrong in NO_DEGREES:
            for m in (0, 1, 39):
                with self.subTest(wrong=wrong, m=m):
                    for call in CALLS:
                        self.refused(NoCell, "n", call, known, m, wrong)
                    self.refused(NoCell, "n", check_cell, known, m, wrong, cell(known, 0, 0))
                    self.refused(NoCell, "n", check_cell, known, m, wrong, None)

    def test_not_known(self):
        for known in (1, 2, 5, 32, 78):
            whole = series(Plain(7), Chance(7, "not known").series(known))
            for call in (cell, square_of):
                self.refused(NotKnown, known, call, whole, 39, 39)
        self.refused(NotKnown, 1, cell, Series(Field(), [1]), 0, 1)
        self.refused(NotKnown, 1, cell, Series(Field(), [1]), 1, 0)
        self.refused(NotKnown, 2, square_of, Series(Field(), [1, 0]), 2, 0)
        self.refused(NotKnown, 2, square_of, Series(Field(), [1, 0]), 0, 39)

    def test_0_and_39_are_let(self):
        known = series(Plain(7), [1] * 79)
        for m in (0, 39):
            for n in (0, 39):
                for call in CALLS:
                    call(known, m, n)


class SquaresTest(TableCase):

    def compare(self, plain, row):
        """Fail unless the squares of the row are those by hand, in their order."""
        found = squares(series(plain, row))
        self.assertIs(type(found), list)
        told = by_hand.known_squares(plain, row)
        self.assertEqual(len(found), len(told))
        for square, expected in zip(found, told):
            self.is_square(plain, square, expected)
        return found

    def test_against_the_linear_equations(self):
        for prime in PRIMES:
            for row in notable_rows(prime):
                self.compare(Plain(prime), row)

    def test_every_short_series(self):
        for prime, most in [(2, 6), (3, 4), (5, 3)]:
            for known in range(1, most + 1):
                for row in every_row(prime, known):
                    self.compare(Plain(prime), row)

    def known_squares_by_multiplying_out(self, known, found):
        """Fail unless each square is as its fraction and the series tell, and the order is right."""
        places = []
        for square in found:
            a, b = square.fraction.degrees
            self.assertEqual((square.m, square.n), (a, b))
            self.assertLess(a + b, known.known)
            whole = square.fraction.bottom * Poly(known.field, known.coefficients) - square.fraction.top
            miss = next((k for k in range(known.known) if whole.coefficient(k) != 0), None)
            self.assertIs(square.closed, miss is not None)
            self.assertEqual(square.size, (known.known if miss is None else miss) - a - b)
            self.assertGreaterEqual(square.size, 1)
            places.append((a + b, a))
        self.assertEqual(places, sorted(set(places)))

    def test_every_pair_of_a_known_total_lies_in_just_one(self):
        for prime in PRIMES:
            chance = Chance(prime, "pairs")
            rows = [*notable_rows(prime), chance.series(20), [*chance.series(5), *[0] * 9, *chance.series(6)],
                    chance.plain.expanded(chance.bottom(3), chance.bottom(4), 24)]
            for row in rows:
                known = series(chance.plain, row)
                found = squares(known)
                self.known_squares_by_multiplying_out(known, found)
                for m in range(len(row) + 3):
                    for n in range(len(row) + 3):
                        many = sum(square.has(m, n) for square in found)
                        self.assertTrue(many == 1 or m + n >= len(row) and many == 0)

    def test_one_more_coefficient(self):
        for prime in (2, 3, 0):
            plain = Plain(prime)
            for row in notable_rows(prime):
                for known in range(1, len(row)):
                    before = squares(series(plain, row[:known]))
                    after = squares(series(plain, row[:known + 1]))
                    for square in before:
                        now = [each for each in after if (each.m, each.n) == (square.m, square.n)]
                        self.assertEqual(len(now), 1)
                        self.assertTrue(now[0].fraction == square.fraction)
                        if square.closed:
                            self.assertTrue(now[0] == square)
                        else:
                            grown = square.fraction.agreement(series(plain, row[:known + 1])) is None
                            self.assertEqual(now[0].size, square.size + (1 if grown else 0))
                            self.assertIs(now[0].closed, not grown)
                    for square in after:
                        if square.m + square.n < known:
                            self.assertTrue(any((each.m, each.n) == (square.m, square.n) for each in before))

    def test_the_example_of_the_document(self):
        for prime in SMALL:
            plain = Plain(prime)
            found = squares(Series(Field(prime), [1, 0, 0, 0, 1]))
            told = [(0, 0, 4, True, ([1], [1])), (0, 4, 1, False, ([1], plain.row([1, 0, 0, 0, -1]))),
                    (4, 0, 1, False, ([1, 0, 0, 0, 1], [1]))]
            self.assertEqual(len(found), 3)
            for square, expected in zip(found, told):
                self.is_square(plain, square, expected)

    def test_long_rows_of_zeros(self):
        for prime in PRIMES:
            plain = Plain(prime)
            row = [1, 1] + [0] * 20 + [1] + [0] * 9
            found = squares(series(plain, row))
            first = [square for square in found if (square.m, square.n) == (1, 0)][0]
            self.assertEqual((first.size, first.closed), (21, True))
            self.known_squares_by_multiplying_out(series(plain, row), found)
            self.assertEqual([each.size for each in squares(series(plain, [1] + [0] * 78))], [79])

    def test_79_coefficients(self):
        for prime in (2, 7, 0):
            chance = Chance(prime, "squares of 79")
            top, bottom = chance.bottom(4), chance.bottom(5)
            row = chance.plain.expanded(top, bottom, 79)
            row[78] = chance.plain.number(row[78] + 1)
            known = series(chance.plain, row)
            found = squares(known)
            for total in (0, 1, 20, 39, 40, 77, 78):
                for m in range(total + 1):
                    self.assertEqual(sum(square.has(m, total - m) for square in found), 1)
            self.assertEqual([each.closed for each in found if (each.m, each.n) == (4, 5)], [True])
            self.assertEqual([each.size for each in found if (each.m, each.n) == (4, 5)], [69])

    def test_corners_beyond_39(self):
        found = squares(series(Plain(7), [1] + [0] * 49 + [1]))
        self.assertEqual([(each.m, each.n, each.size) for each in found], [(0, 0, 50), (0, 50, 1), (50, 0, 1)])

    def test_the_list_is_new(self):
        known = Series(Field(7), [1, 2, 3])
        found = squares(known)
        many = len(found)
        found.clear()
        self.assertEqual(len(squares(series=known)), many)
        self.assertTrue(squares(known) == squares(Series(Field(7), (1, 2, 3))))
        self.is_series(Plain(7), known, [1, 2, 3])


class SureTest(TableCase):

    def test_all_continuations_of_small_primes(self):
        for prime, most, greatest in [(2, 4, 4), (3, 3, 2)]:
            plain = Plain(prime)
            cells = {}
            for known in range(1, most + 1):
                for row in every_row(prime, known):
                    for m, n in product(range(greatest + 1), repeat=2):
                        shared = self.cells_of_continuations(plain, row, m, n, cells)
                        whole = series(plain, row)
                        with self.subTest(row=row, m=m, n=n):
                            self.assertIs(is_sure(whole, m, n), len(shared) == 1)
                            if len(shared) == 1:
                                self.is_fraction(plain, cell(whole, m, n), *shared[0])

    def cells_of_continuations(self, plain, row, m, n, cells):
        """The unlike cells (m, n) of all continuations that tell enough coefficients."""
        found = []
        for more in product(range(plain.prime), repeat=max(0, m + n + 1 - len(row))):
            whole = (*row, *more)[:m + n + 1]
            if (whole, m) not in cells:
                cells[whole, m] = by_hand.cell(plain, whole, m, n)
            if cells[whole, m] not in found:
                found.append(cells[whole, m])
        return found

    def test_far_pairs(self):
        for prime in (0, 7):
            known = series(Plain(prime), [1] + [0] * 40 + [1, 1])
            for m, n, sure in [(39, 39, True), (39, 3, True), (0, 39, True)]:
                self.assertIs(is_sure(known, m, n), sure)
            known = series(Plain(prime), [1] + [0] * 38 + [1, 1])
            for m, n, sure in [(38, 38, True), (39, 0, True), (39, 39, False), (39, 38, False), (38, 39, False)]:
                self.assertIs(is_sure(known, m, n), sure)

    def test_by_name(self):
        known = Series(Field(7), [1, 2, 3])
        self.assertIs(is_sure(n=1, m=1, series=known), True)
        self.assertTrue(cell(n=0, m=1, series=known) == cell(known, 1, 0))
        self.assertTrue(square_of(n=0, m=1, series=known) == square_of(known, 1, 0))


class TwinsTest(TableCase):

    def holds(self, plain, row, m, n):
        """Fail unless the twins are None for a sure cell, otherwise two good continuations."""
        known = series(plain, row)
        found = twins(known, m, n)
        if is_sure(known, m, n):
            self.assertIsNone(found)
            return
        self.assertIs(type(found), tuple)
        self.assertEqual(len(found), 2)
        for one in found:
            self.assertIs(type(one), Series)
            self.assertEqual(one.known, m + n + 1)
            self.assertTrue(one.first(len(row)) == known)
        self.assertFalse(cell(found[0], m, n) == cell(found[1], m, n))
        again = twins(series(plain, row), n=n, m=m)
        self.assertTrue(again[0] == found[0] and again[1] == found[1])
        if m + n < 12:
            cells = [by_hand.cell(plain, plain.row(one.coefficients), m, n) for one in found]
            self.assertNotEqual(cells[0], cells[1])

    def test_every_pair_of_short_series(self):
        for prime in SMALL:
            for row in notable_rows(prime):
                if len(row) <= 9:
                    for m, n in product(range(len(row) + 1), repeat=2):
                        self.holds(Plain(prime), row, m, n)

    def test_39_39(self):
        for prime in (0, 2, 9973):
            chance = Chance(prime, "39")
            for known in (1, 2, 31, 40, 77, 78, 79):
                self.holds(chance.plain, chance.series(known), 39, 39)
                self.holds(chance.plain, [1, *[0] * (known - 1)], 39, 39)
            self.holds(chance.plain, chance.series(40), 39, 1)
            self.holds(chance.plain, chance.series(40), 0, 39)
            self.holds(chance.plain, chance.series(39), 0, 39)


class CheckCellTest(TableCase):

    def test_the_right_cell_and_others(self):
        for prime in SMALL:
            plain = Plain(prime)
            for row in notable_rows(prime):
                known = series(plain, row)
                for m, n in product(range(min(6, len(row) + 1)), repeat=2):
                    if not is_sure(known, m, n):
                        for one in (fraction(plain, [1], [1]), cell(known, 0, 0), None):
                            self.assertIs(check_cell(known, m, n, one), False)
                        continue
                    found = cell(known, m, n)
                    part = Poly(plain.field, [1, 1])
                    self.assertIs(check_cell(known, m, n, found), True)
                    self.assertIs(check_cell(known, m, n, Fraction(found.top * part, found.bottom * part)), True)
                    for other in (Fraction(found.top * part, found.bottom), Fraction(found.top, found.bottom * part)):
                        self.assertIs(check_cell(known, m, n, other), False)

    def test_a_cell_of_an_unsure_pair(self):
        known = Series(Field(2), [1, 0, 0, 0, 1])
        for one in twins(known, 4, 1):
            self.assertIs(check_cell(known, 4, 1, cell(one, 4, 1)), False)

    def test_other_things(self):
        for prime in (0, 7):
            known = Series(Field(prime), [1, 2, 4, 1])
            found = cell(known, 1, 1)
            for thing in [*other_things(), found.top, (found.top, found.bottom), [found], known, cell(known, 3, 0),
                          fraction(Plain(5), [1], [1, 3])]:
                with self.subTest(prime=prime, thing=thing):
                    self.assertIs(check_cell(known, 1, 1, thing), False)

    def test_another_field_with_the_same_numbers(self):
        for one, other in [(2, 3), (0, 7)]:
            known = Series(Field(one), [1, 1, 1])
            self.assertIs(check_cell(known, 2, 0, fraction(Plain(other), [1, 1, 1], [1])), False)

    def test_by_name(self):
        known = Series(Field(7), [1, 2, 3])
        self.assertIs(check_cell(thing=cell(known, 1, 1), n=1, m=1, series=known), True)


class CheckSquareTest(TableCase):

    def test_the_known_squares_and_no_others(self):
        for prime in SMALL:
            plain = Plain(prime)
            for row in notable_rows(prime):
                known = series(plain, row)
                for told in by_hand.known_squares(plain, row):
                    self.assertIs(check_square(known, as_square(plain, told)), True)
                    m, n, size, closed, pair = told
                    for other in [(m + 1, n, size, closed, pair), (m - 1, n, size, closed, pair),
                                  (m, n + 1, size, closed, pair), (m, n - 1, size, closed, pair),
                                  (m, n, size + 1, closed, pair), (m, n, size - 1, closed, pair),
                                  (m, n, -size, closed, pair), (m, n, size, not closed, pair),
                                  (n + 1, m + 1, size, closed, pair), (m + 100, n, size, closed, pair),
                                  (m, n, size, closed, (plain.times(pair[0], [1, 1]), pair[1]))]:
                        self.assertIs(check_square(known, as_square(plain, other)), False)

    def test_kinds_of_fields(self):
        known = Series(Field(7), [1, 0, 0, 0, 1])
        one = fraction(Plain(7), [1], [1])
        tail = fraction(Plain(7), [1, 0, 0, 0, 1], [1])
        self.assertIs(check_square(known, Square(0, 0, 4, True, one)), True)
        self.assertIs(check_square(known, Square(4, 0, 1, False, tail)), True)
        wrong = [
            Square(False, 0, 4, True, one), Square(0, False, 4, True, one), Square(0, 0, 4, 1, one),
            Square(4, 0, True, False, tail), Square(4, 0, 1, 0, tail), Square(4, False, 1, False, tail),
            Square(Ratio(0), 0, 4, True, one), Square(0, Ratio(0), 4, True, one), Square(0, 0, Ratio(4), True, one),
            Square(4, 0, 1, Ratio(0), tail), Square(0, 0, 4, None, one), Square(4, 0, 1, None, tail),
            Square(0, 0, 4, True, one.top), Square(0, 0, 4, True, 1), Square(0, 0, 4, True, None),
            Square(0, 0, 4, True, (one.top, one.bottom)), Square(0, 0, 4, True, fraction(Plain(5), [1], [1])),
            Square(0, 0, 4, True, fraction(Plain(0), [1], [1])), Square("0", "0", "4", "True", one),
            Square([0], (0,), {4: 4}, [True], [one]),
        ]
        for square in wrong:
            with self.subTest(vars(square)):
                self.assertIs(check_square(known, square), False)

    def test_each_field_may_be_anything(self):
        known = Series(Field(7), [1, 0, 0, 0, 1])
        right = {"m": 0, "n": 0, "size": 4, "closed": True, "fraction": fraction(Plain(7), [1], [1])}
        for field in right:
            for thing in other_things():
                if type(thing) is type(right[field]) and thing == right[field]:
                    continue
                with self.subTest(field=field, thing=thing):
                    self.assertIs(check_square(known, Square(**{**right, field: thing})), False)

    def test_other_things(self):
        for prime in (0, 7):
            known = Series(Field(prime), [2, 4, 1, 1])
            for thing in [*other_things(), squares(known), cell(known, 0, 0), known]:
                with self.subTest(prime=prime, thing=thing):
                    self.assertIs(check_square(known, thing), False)

    def test_corners_beyond_39(self):
        known = series(Plain(7), [1] + [0] * 49 + [1])
        for square in squares(known):
            self.assertIs(check_square(series=known, thing=square), True)
        self.assertIs(check_square(known, Square(51, 0, 1, False, squares(known)[2].fraction)), False)
        self.assertIs(check_square(known, Square(10 ** 30, 0, 1, False, squares(known)[2].fraction)), False)


class ListedTest(Case):

    def test_the_functions_stand_in_their_module(self):
        for name in ("cell", "is_sure", "square_of", "squares", "twins", "check_cell", "check_square"):
            self.assertEqual(getattr(table, name).__module__, "seriessquares.table")


if __name__ == "__main__":
    unittest.main()
