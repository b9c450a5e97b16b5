"""Points [36] and [37], and what point [2] says of roads."""

import unittest

import by_hand
from cases import Case, fraction, passed, poly, series
from others import no_integers, no_sequences, other_things
from plain import PRIMES, Chance, Plain, notable_rows
from seriessquares import roads
from seriessquares.errors import NoCount, NoFraction, NoQuotients, NotKnown, OtherField
from seriessquares.fields import Field
from seriessquares.polys import Poly
from seriessquares.ratios import Ratio
from seriessquares.rationals import Fraction
from seriessquares.roads import Stretch, quotients, rebuilt, road
from seriessquares.series import Series
from seriessquares.table import cell


def totals(prime):
    """Series with each total that they let."""
    return [(Plain(prime), row, total) for row in notable_rows(prime) for total in range(len(row))]


def long_ones(prime):
    """Series with great totals."""
    chance = Chance(prime, "long roads")
    rows = [chance.series(79), chance.series(40), [1, *[0] * 30, *chance.series(9)],
            chance.plain.expanded(chance.bottom(6), chance.bottom(5), 60)]
    return [(chance.plain, row, 39) for row in rows]


class StretchTest(Case):

    def test_fields(self):
        one = fraction(Plain(7), [1], [1, 1])
        for stretch in (Stretch(5, 2, one), Stretch(fraction=one, end=2, start=5)):
            self.assertEqual((stretch.start, stretch.end), (5, 2))
            self.assertTrue(stretch.fraction == one)
        kept = Stretch("a", None, 3)
        self.assertEqual((kept.start, kept.end, kept.fraction), ("a", None, 3))

    def test_equality(self):
        one = fraction(Plain(7), [1], [1, 1])
        stretch = Stretch(5, 2, one)
        self.same(stretch, Stretch(5, 2, fraction(Plain(7), [2, 2], [2, 4, 2])), True)
        for other in [Stretch(4, 2, one), Stretch(5, 3, one), Stretch(5, 2, fraction(Plain(7), [1], [1, 2])),
                      Stretch(2, 5, one), Stretch(5, 2, fraction(Plain(5), [1], [1, 1])), Stretch(5, 2, None),
                      *other_things(), (5, 2, one), [5, 2, one], one]:
            self.same(stretch, other, False)


class RoadTest(Case):

    def holds(self, plain, row, total):
        """Fail unless the stretches go from the total to 0 without a gap, and neighbours are unlike."""
        found = road(series(plain, row), total)
        self.assertIs(type(found), list)
        below = total
        for stretch in found:
            self.assertIs(type(stretch), Stretch)
            self.assertIs(type(stretch.start), int)
            self.assertIs(type(stretch.end), int)
            self.assertEqual(stretch.start, below)
            self.assertLessEqual(stretch.end, stretch.start)
            below = stretch.end - 1
        self.assertEqual(below, -1)
        for one, other in zip(found, found[1:]):
            self.assertFalse(one.fraction == other.fraction)
            self.fact(plain, one.fraction, other.fraction)
        return found

    def fact(self, plain, one, other):
        """Fail unless one.top other.bottom - other.top one.bottom is a number, not 0, times x ** (a + b)."""
        a, b = one.top.degree, other.bottom.degree
        difference = one.top * other.bottom - other.top * one.bottom
        self.assertEqual([k for k in range(difference.degree + 1) if difference.coefficient(k) != 0], [a + b])

    def test_each_fraction_is_the_cell(self):
        for prime in PRIMES:
            for plain, row, total in totals(prime):
                for stretch in self.holds(plain, row, total):
                    for m in range(stretch.end, stretch.start + 1):
                        self.is_fraction(plain, stretch.fraction, *by_hand.cell(plain, row, m, total - m))

    def test_long_roads(self):
        for prime in PRIMES:
            for plain, row, total in long_ones(prime):
                known = series(plain, row)
                for stretch in self.holds(plain, row, total):
                    for m in {stretch.start, stretch.end}:
                        self.assertTrue(stretch.fraction == cell(known, m, total - m))

    def test_the_example(self):
        found = road(Series(Field(), [1, 1, 2]), 2)
        expected = [(2, 2, [1, 1, 2], [1]), (1, 1, [1, -1], [1, -2]), (0, 0, [1], [1, -1, -1])]
        self.assertEqual(len(found), 3)
        for stretch, (start, end, top, bottom) in zip(found, expected):
            self.assertTrue(stretch == Stretch(start, end, fraction(Plain(0), top, bottom)))

    def test_no_count(self):
        for known in (1, 5, 79):
            whole = series(Plain(7), [1] * known)
            for call in (road, quotients):
                for total in [-1, 40, 41, 10 ** 20, -10 ** 20, *no_integers()]:
                    with self.subTest(known=known, total=total):
                        self.refused(NoCount, None, call, whole, total)

    def test_not_known(self):
        for known in (1, 2, 5, 32, 39, 40, 79):
            whole = series(Plain(7), [1] * known)
            for call in (road, quotients):
                for total in range(40):
                    if total < known:
                        call(whole, total)
                    else:
                        self.refused(NotKnown, known, call, whole, total)

    def test_a_road_depends_on_its_own_coefficients_alone(self):
        for prime in (0, 7):
            chance = Chance(prime, "alone")
            row = chance.series(12)
            for total in range(12):
                for call in (road, quotients):
                    self.assertTrue(call(series(chance.plain, row), total) ==
                                    call(series(chance.plain, row[:total + 1]), total))

    def test_the_list_is_new(self):
        known = Series(Field(7), [1, 2, 3])
        for call in (road, quotients):
            found = call(known, 2)
            many = len(found)
            found.clear()
            self.assertEqual(len(call(total=2, series=known)), many)
        self.is_series(Plain(7), known, [1, 2, 3])


class QuotientsTest(Case):

    def by_division(self, plain, row, total):
        """The quotients by dividing again and again."""
        high, low = [0] * (total + 1) + [1], plain.trim(row[:total + 1])
        found = []
        while low:
            quotient, rest = plain.divided(high, low)
            found.append(quotient)
            high, low = low, rest
        return found

    def holds(self, plain, row, total):
        """Fail unless the facts hold: as many as stretches, their degrees, and what they are multiplied out."""
        known = series(plain, row)
        found = quotients(known, total)
        self.assertIs(type(found), list)
        self.assertEqual(len(found), len(road(known, total)))
        for quotient in found:
            self.assertIs(type(quotient), Poly)
            self.assertGreaterEqual(quotient.degree, 1)
        self.assertEqual(sum(quotient.degree for quotient in found), total + 1)
        high, low = poly(plain, [0] * (total + 1) + [1]), poly(plain, row[:total + 1])
        for quotient in found:
            high, low = low, high - quotient * low
            self.assertLess(low.degree, high.degree)
        self.assertEqual((high.degree, low.degree), (0, -1))
        whole = rebuilt(known.field, found)
        self.is_fraction(plain, whole, [0] * (total + 1) + [1], row[:total + 1])
        return found

    def test_against_dividing_again_and_again(self):
        for prime in PRIMES:
            for plain, row, total in totals(prime):
                found = self.holds(plain, row, total)
                expected = self.by_division(plain, row, total)
                self.assertEqual(len(found), len(expected))
                for quotient, by_division in zip(found, expected):
                    self.is_poly(plain, quotient, by_division)

    def test_long_roads(self):
        for prime in (2, 7, 9973):
            for plain, row, total in long_ones(prime):
                self.holds(plain, row, total)
        chance = Chance(0, "long quotients")
        self.holds(chance.plain, chance.series(20), 19)
        self.holds(chance.plain, [1, *[0] * 30, *chance.series(9)], 39)

    def test_the_example(self):
        found = quotients(Series(Field(), [1, 1, 2]), 2)
        rows = [[Ratio(-1, 4), Ratio(1, 2)], [-12, -8], [Ratio(1, 16), Ratio(-1, 16)]]
        self.assertTrue(found == [Poly(Field(), row) for row in rows])


class RebuiltTest(Case):

    def expected(self, plain, parts):
        """Top and bottom of q0 + 1 / (q1 + 1 / ..), not in lowest terms by any care."""
        top, bottom = parts[-1], [1]
        for part in reversed(parts[:-1]):
            top, bottom = plain.plus(plain.times(part, top), bottom), top
        return top, bottom

    def holds(self, plain, parts):
        """Fail unless the fraction, or its pole, is the expected one, for a list and for a tuple."""
        top, bottom = self.expected(plain, parts)
        passed_parts = [poly(plain, part) for part in parts]
        for row in (passed_parts, tuple(passed_parts)):
            if bottom[0] == 0:
                self.refused(NoFraction, "pole", rebuilt, plain.field, row)
            else:
                self.is_fraction(plain, rebuilt(plain.field, row), top, bottom)

    def test_rows_by_chance(self):
        for prime in PRIMES:
            chance = Chance(prime, "rebuilt")
            for degrees in [(1,), (0,), (3,), (0, 1), (1, 1), (2, 1, 1), (0, 2, 3), (1, 1, 1, 1, 1), (4, 3, 2, 1)]:
                for _ in range(4):
                    self.holds(chance.plain, [chance.poly(degree) for degree in degrees])

    def test_a_constant_at_place_0(self):
        plain = Plain(7)
        self.is_fraction(plain, rebuilt(Field(7), [Poly(Field(7), [3])]), [3], [1])
        found = rebuilt(Field(7), [Poly(Field(7), [3]), Poly(Field(7), [1, 1])])
        self.is_fraction(plain, found, [4, 3], [1, 1])

    def test_40_parts(self):
        for prime in PRIMES:
            plain = Plain(prime)
            self.holds(plain, [plain.row([1, 1])] * 40)
            self.holds(plain, [plain.row([1])] + [plain.row([1, 0, 1])] * 39)
            chance = Chance(prime, "40")
            self.holds(plain, [chance.poly(1) for _ in range(12)])

    def test_degree_90_in_total(self):
        for prime in (2, 9973):
            chance = Chance(prime, "90")
            self.holds(chance.plain, [chance.poly(degree) for degree in (30, 30, 30)])
            self.holds(chance.plain, [chance.poly(90)])
        self.holds(Plain(0), [[1] * 31, [2] + [1] * 30, [1] + [0] * 28 + [1, 1]])

    def test_pole(self):
        for prime in (0, 7):
            x, one = Poly(Field(prime), [0, 1]), Poly(Field(prime), [1])
            self.refused(NoFraction, "pole", rebuilt, Field(prime), [x, x])
            self.refused(NoFraction, "pole", rebuilt, Field(prime), [one, x])
            self.is_fraction(Plain(prime), rebuilt(Field(prime), [x]), [0, 1], [1])
            self.is_fraction(Plain(prime), rebuilt(Field(prime), [x, x, x]), [0, 2, 0, 1], [1, 0, 1])

    def test_no_sequence_and_other_counts(self):
        one = Poly(Field(7), [1, 1])
        for parts in [*no_sequences(), one, Series(Field(7), [1]), [], (), [one] * 41, (one,) * 41, [None] * 41,
                      {0: one}, [Poly(Field(), [1])] * 41]:
            with self.subTest(parts=parts):
                self.refused(NoQuotients, -1, rebuilt, Field(7), parts)

    def test_the_first_wrong_part(self):
        for prime in (0, 7):
            field = Field(prime)
            good, nothing, constant = Poly(field, [1, 1]), Poly(field, [0]), Poly(field, [2])
            other = Poly(Field(5), [1, 1])
            unit = Fraction(constant, constant)
            for place in range(4):
                wrong = [nothing, *no_integers(), 0, 1, [1, 1], (1, 1), unit, Series(field, [1, 1])]
                for part in [*wrong, constant] if place > 0 else wrong:
                    parts = [other, good, good, other, good]
                    parts[place] = part
                    with self.subTest(place=place, part=part):
                        self.refused(NoQuotients, place, rebuilt, field, parts)
                        self.refused(NoQuotients, place, rebuilt, field, tuple(parts))
                        self.refused(NoQuotients, place, rebuilt, field, [*parts, nothing, None])

    def test_nothing_of_another_field_is_a_wrong_part(self):
        self.refused(NoQuotients, 0, rebuilt, Field(7), [Poly(Field(), [])])
        self.refused(NoQuotients, 1, rebuilt, Field(7), [Poly(Field(7), [1]), Poly(Field(), [1])])

    def test_other_fields_come_before_the_pole(self):
        for one, other in [(0, 7), (7, 0), (2, 3)]:
            x, elsewhere = Poly(Field(one), [0, 1]), Poly(Field(other), [0, 1])
            for parts in ([elsewhere], [x, elsewhere], [elsewhere, x], [x, x, elsewhere], [elsewhere, elsewhere]):
                self.refused(OtherField, None, rebuilt, Field(one), parts)

    def test_what_was_passed_is_not_changed(self):
        parts = [Poly(Field(7), passed([1, 2])), Poly(Field(7), [3, 0, 1])]
        found = rebuilt(parts=parts, field=Field(7))
        self.assertEqual([part.coefficients for part in parts], [(1, 2), (3, 0, 1)])
        parts.clear()
        self.is_fraction(Plain(7), found, [4, 6, 1, 2], [3, 0, 1])


class ListedTest(Case):

    def test_the_class_and_the_functions_stand_in_their_module(self):
        self.listed(Stretch, "seriessquares.roads", ["__init__", "__eq__"])
        for name in ("road", "quotients", "rebuilt"):
            self.assertEqual(getattr(roads, name).__module__, "seriessquares.roads")


if __name__ == "__main__":
    unittest.main()
