"""Points [20] to [24], and what point [2] says of fractions."""

import operator
import unittest

from cases import Case, fraction, poly, ratio, series
from others import no_integers, refused_numbers
from plain import PRIMES, Chance, Plain
from seriessquares.errors import NoCount, NoFraction, NoNumber, OtherField
from seriessquares.fields import Field
from seriessquares.polys import Poly, gcd
from seriessquares.ratios import Ratio
from seriessquares.rationals import Fraction
from seriessquares.series import Series

SIGNS = [operator.add, operator.sub, operator.mul, Fraction.over]


def parts(plain, sign, one, other):
    """Top and bottom of the result, for two pairs (top, bottom)."""
    top, bottom = plain.times(one[0], other[1]), plain.times(one[1], other[1])
    second = plain.times(other[0], one[1])
    if sign is operator.add:
        return plain.plus(top, second), bottom
    if sign is operator.sub:
        return plain.minus(top, second), bottom
    if sign is operator.mul:
        return plain.times(one[0], other[0]), bottom
    return top, plain.times(one[1], other[0])


def some_pairs(chance):
    """Pairs (top, bottom) of several degrees; some tops are 0 at 0, some have a divisor in common with the bottom."""
    plain = chance.plain
    pairs = [(chance.poly(top), chance.bottom(bottom)) for top, bottom in [(0, 0), (2, 0), (0, 2), (1, 1), (3, 4)]]
    pairs.append((plain.times([0, 1], chance.poly(1)), chance.bottom(2)))
    part = chance.bottom(2)
    pairs.append((plain.times(part, chance.bottom(1)), plain.times(part, chance.bottom(2))))
    return pairs


class MakingTest(Case):

    def test_lowest_terms(self):
        for prime in PRIMES:
            chance = Chance(prime, "making")
            for top, bottom in some_pairs(chance):
                found = fraction(chance.plain, top, bottom)
                self.is_fraction(chance.plain, found, top, bottom)
                self.number(chance.plain, found.bottom.at(0), 1)

    def test_common_divisors_go(self):
        for prime in PRIMES:
            chance = Chance(prime, "divisors")
            plain = chance.plain
            for degree in (1, 2, 4):
                top, bottom, part = chance.poly(3), chance.bottom(2), chance.poly(degree)
                found = fraction(plain, plain.times(top, part), plain.times(bottom, part))
                self.is_fraction(plain, found, top, bottom)
                self.same(found, fraction(plain, top, bottom), True)

    def test_a_common_power_of_x_makes_no_pole(self):
        for prime in (0, 2, 7):
            plain = Plain(prime)
            self.is_fraction(plain, fraction(plain, [0, 0, 1], [0, 0, 1, 1]), [1], [1, 1])
            self.is_fraction(plain, fraction(plain, [0, 0, 1], [0, 1, 1]), [0, 1], [1, 1])

    def test_the_bottom_is_1_at_0(self):
        found = Fraction(Poly(Field(), [2, 4]), Poly(Field(), [6, 0, 3]))
        self.is_fraction(Plain(0), found, [2, 4], [6, 0, 3])
        self.assertEqual(found.top.coefficients, (Ratio(1, 3), Ratio(2, 3)))
        self.assertEqual(found.bottom.coefficients, (Ratio(1), Ratio(0), Ratio(1, 2)))

    def test_long_polynomials(self):
        for prime in (0, 2, 9973):
            chance = Chance(prime, "long")
            for degrees in [(99, 98), (60, 99)]:
                top, bottom = chance.poly(degrees[0]), chance.bottom(degrees[1])
                if prime == 0 or len(chance.plain.gcd(top, bottom)) < 5:
                    found = fraction(chance.plain, top, bottom)
                    self.assertTrue(found.top * poly(chance.plain, bottom) == found.bottom * poly(chance.plain, top))
                    self.number(chance.plain, found.bottom.at(0), 1)

    def test_the_words_in_their_order(self):
        for prime in (0, 2, 7):
            field = Field(prime)
            nothing, x, one = Poly(field, []), Poly(field, [0, 1]), Poly(field, [1, 1])
            for top in (nothing, x, one):
                self.refused(NoFraction, "bottom", Fraction, top, nothing)
            for bottom in (x, one, x * x):
                self.refused(NoFraction, "top", Fraction, nothing, bottom)
            for top, bottom in [(one, x), (one, x * x), (x, x * x), (one, x * one), (x * one, x * x * one)]:
                self.refused(NoFraction, "pole", Fraction, top, bottom)

    def test_other_fields_come_first(self):
        for one, other in [(0, 7), (7, 0), (2, 3)]:
            for top in ([], [1], [0, 1]):
                for bottom in ([], [1], [0, 1]):
                    self.refused(OtherField, None, Fraction, Poly(Field(one), top), Poly(Field(other), bottom))

    def test_by_name_and_the_arguments_do_not_change(self):
        top, bottom = Poly(Field(7), [2, 2]), Poly(Field(7), [2, 4, 2])
        found = Fraction(bottom=bottom, top=top)
        self.is_fraction(Plain(7), found, [1], [1, 1])
        self.is_poly(Plain(7), top, [2, 2])
        self.is_poly(Plain(7), bottom, [2, 4, 2])

    def test_example(self):
        field = Field(7)
        half = Fraction(Poly(field, [2, 2]), Poly(field, [2, 4, 2]))
        self.assertEqual([half.top.coefficients, half.bottom.coefficients, half.degrees], [(1,), (1, 1), (0, 1)])
        self.assertEqual(half.series(4).coefficients, (1, 6, 1, 6))


class EqualityTest(Case):

    def test_equal_values_made_in_different_ways(self):
        for prime in (0, 5, 7):
            plain = Plain(prime)
            one = fraction(plain, [1, 1], [1, 2])
            others = [fraction(plain, [3, 3], [3, 6]), fraction(plain, [1, 2, 1], [1, 3, 2]),
                      fraction(plain, [1], [1, 2]) + fraction(plain, [0, 1], [1, 2]), one * 1, -(-one), one + 0,
                      fraction(plain, [1, 2], [1, 1]).turned(), one.over(1), one * one.over(one)]
            for other in others:
                self.same(one, other, True)

    def test_unequal_fractions(self):
        for prime in (0, 7):
            plain = Plain(prime)
            rows = [([1], [1]), ([2], [1]), ([1, 1], [1]), ([1], [1, 1]), ([1, 2], [1, 1]), ([0, 1], [1, 1])]
            for one in rows:
                for other in rows:
                    self.same(fraction(plain, *one), fraction(plain, *other), one == other)

    def test_other_fields_and_things(self):
        self.same(fraction(Plain(2), [1], [1, 1]), fraction(Plain(3), [1], [1, 1]), False)
        self.same(fraction(Plain(0), [1], [1, 1]), fraction(Plain(3), [1], [1, 1]), False)
        for prime in (0, 7):
            one = fraction(Plain(prime), [1], [1])
            for other in [*no_integers(), 1, Ratio(1), one.top, (one.top, one.bottom), Series(Field(prime), [1])]:
                with self.subTest(prime=prime, other=other):
                    self.same(one, other, False)


class SeriesTest(Case):

    def test_against_multiplying_out(self):
        for prime in PRIMES:
            chance = Chance(prime, "series")
            plain = chance.plain
            for top, bottom in some_pairs(chance):
                found = fraction(plain, top, bottom)
                if top[0] == 0:
                    continue
                for count in (1, 2, 5, 30, 79):
                    expanded = found.series(count)
                    row = plain.row(expanded.coefficients)
                    self.is_series(plain, expanded, row)
                    self.assertEqual(len(row), count)
                    product = (plain.times(row, bottom) + [0] * count)[:count]
                    self.assertEqual(product, (plain.trim(top) + [0] * count)[:count])

    def test_long_fractions(self):
        for prime in (0, 7):
            chance = Chance(prime, "long")
            top, bottom = chance.bottom(25), chance.bottom(30)
            expected = chance.plain.expanded(top, bottom, 79)
            self.is_series(chance.plain, fraction(chance.plain, top, bottom).series(count=79), expected)

    def test_a_polynomial_goes_on_with_zeros(self):
        self.is_series(Plain(0), fraction(Plain(0), [1, 2], [1]).series(5), [1, 2, 0, 0, 0])

    def test_no_count(self):
        for top in ([1, 1], [0, 1]):
            for prime in (0, 7):
                found = fraction(Plain(prime), top, [1, 2])
                for count in [0, -1, 80, 10 ** 20, *no_integers()]:
                    with self.subTest(top=top, count=count):
                        self.refused(NoCount, None, found.series, count)

    def test_a_first_coefficient_0(self):
        for prime in PRIMES:
            for top in ([0, 1], [0, 0, 0, 1]):
                for count in (1, 2, 79):
                    self.refused(NoFraction, "first", fraction(Plain(prime), top, [1, 1]).series, count)


class AgreementTest(Case):

    def test_each_index_and_none(self):
        for prime in PRIMES:
            chance = Chance(prime, "agreement")
            plain = chance.plain
            top, bottom = chance.bottom(2), chance.bottom(3)
            found = fraction(plain, top, bottom)
            for known in (1, 2, 12, 79):
                row = plain.expanded(top, bottom, known)
                self.assertIsNone(found.agreement(series(plain, row)))
                for index in range(known):
                    other = list(row)
                    other[index] = plain.number(row[index] + 1)
                    for later in range(index + 1, known):
                        other[later] = chance.number()
                    if other[0] != 0:
                        self.assertEqual(found.agreement(series=series(plain, other)), index)
                        self.assertIs(type(found.agreement(series(plain, other))), int)

    def test_a_fraction_that_begins_with_0(self):
        for prime in PRIMES:
            plain = Plain(prime)
            for row in ([1], [1, 1], [1, 0, 0, 0]):
                self.assertEqual(fraction(plain, [0, 1], [1, 1]).agreement(series(plain, row)), 0)
                self.assertEqual(fraction(plain, [0, 0, 1], [1]).agreement(series(plain, row)), 0)

    def test_polynomials(self):
        plain = Plain(0)
        self.assertEqual(fraction(plain, [1], [1]).agreement(series(plain, [1, 0, 0, 0, 1])), 4)
        self.assertIsNone(fraction(plain, [1], [1]).agreement(series(plain, [1, 0, 0, 0])))
        self.assertEqual(fraction(plain, [1, 0, 0, 1], [1]).agreement(series(plain, [1, 0, 0])), None)
        self.assertEqual(fraction(plain, [1, 0, 0, 1], [1]).agreement(series(plain, [1, 0, 0, 2])), 3)

    def test_other_fields(self):
        for one, other in [(0, 7), (7, 0), (2, 3)]:
            self.refused(OtherField, None, fraction(Plain(one), [1], [1]).agreement, Series(Field(other), [1]))
            self.refused(OtherField, None, fraction(Plain(one), [0, 1], [1]).agreement, Series(Field(other), [1]))


class OperatorsTest(Case):

    def compare(self, plain, sign, one, other, left, right):
        """Fail unless the operation gives the fraction of the parts, or the word that they deserve."""
        top, bottom = parts(plain, sign, one, other)
        if bottom == []:
            self.refused(NoFraction, "bottom", sign, left, right)
        elif top == []:
            self.refused(NoFraction, "top", sign, left, right)
        elif plain.divided(bottom, plain.gcd(top, bottom))[0][0] == 0:
            self.refused(NoFraction, "pole", sign, left, right)
        else:
            self.is_fraction(plain, sign(left, right), top, bottom)

    def test_two_fractions(self):
        for prime in PRIMES:
            chance = Chance(prime, "two")
            plain = chance.plain
            for one in some_pairs(chance):
                for other in some_pairs(chance):
                    for sign in SIGNS:
                        self.compare(plain, sign, one, other, fraction(plain, *one), fraction(plain, *other))

    def test_a_number_on_either_side(self):
        for prime in PRIMES:
            chance = Chance(prime, "number")
            plain = chance.plain
            for one in some_pairs(chance):
                for number in [0, 1, -1, chance.number(), chance.long(), 10 ** 39]:
                    other = (plain.trim([number]), [1])
                    for sign in SIGNS:
                        self.compare(plain, sign, one, other, fraction(plain, *one), ratio(number))
                        if sign is not Fraction.over:
                            self.compare(plain, sign, other, one, ratio(number), fraction(plain, *one))

    def test_a_ratio_modulo_a_prime(self):
        one, third = Fraction(Poly(Field(7), [1]), Poly(Field(7), [1, 1])), Ratio(1, 3)
        for found, top in [(one + third, (6, 5)), (third + one, (6, 5)), (one - third, (3, 2)),
                           (third - one, (4, 5)), (one * third, (5,)), (third * one, (5,)), (one.over(third), (3,))]:
            self.assertEqual((found.top.coefficients, found.bottom.coefficients), (top, (1, 1)))

    def test_negative(self):
        for prime in PRIMES:
            chance = Chance(prime, "negative")
            for top, bottom in some_pairs(chance):
                found = -fraction(chance.plain, top, bottom)
                self.is_fraction(chance.plain, found, chance.plain.negative(top), bottom)

    def test_results_that_are_nothing(self):
        for prime in (0, 2, 7):
            one = fraction(Plain(prime), [1, 1, 1], [1, 1])
            self.refused(NoFraction, "top", operator.add, one, -one)
            self.refused(NoFraction, "top", operator.sub, one, one)
            self.refused(NoFraction, "top", operator.mul, one, 0)
            self.refused(NoFraction, "top", operator.mul, 0, one)
            self.refused(NoFraction, "top", operator.sub, one * one.over(one), one)
            constant = fraction(Plain(prime), [1], [1])
            self.refused(NoFraction, "top", operator.sub, constant, 1)
            self.refused(NoFraction, "top", operator.sub, 1, constant)
            self.refused(NoFraction, "top", operator.add, -1, constant)

    def test_over_0_and_poles(self):
        for prime, zeros in [(0, [0, Ratio(0)]), (7, [0, 7, Ratio(7, 2)])]:
            plain = Plain(prime)
            for zero in zeros:
                self.refused(NoFraction, "bottom", fraction(plain, [1], [1, 1]).over, zero)
                self.refused(NoFraction, "bottom", fraction(plain, [0, 1], [1, 1]).over, zero)
            self.refused(NoFraction, "pole", fraction(plain, [1], [1]).over, fraction(plain, [0, 1], [1]))
            self.refused(NoFraction, "pole", fraction(plain, [0, 1], [1]).over, fraction(plain, [0, 0, 1], [1]))
            found = fraction(plain, [0, 1], [1]).over(other=fraction(plain, [0, 2], [1, 1]))
            self.is_fraction(plain, found, [1, 1], [2])

    def test_numbers_that_are_refused(self):
        for prime in (2, 7):
            one = fraction(Plain(prime), [1], [1, 1])
            for sign in SIGNS:
                self.refused(NoNumber, None, sign, one, Ratio(1, prime))
                if sign is not Fraction.over:
                    self.refused(NoNumber, None, sign, Ratio(1, prime), one)
        for wrong in refused_numbers(7):
            if not isinstance(wrong, Ratio):
                with self.assertRaises((NoNumber, TypeError)):
                    one + wrong

    def test_other_fields_come_first(self):
        for one, other in [(0, 7), (7, 0), (2, 3)]:
            for top in ([1], [0, 1], [-1]):
                for sign in SIGNS:
                    left, right = fraction(Plain(one), [1], [1]), fraction(Plain(other), top, [1])
                    self.refused(OtherField, None, sign, left, right)

    def test_operands_do_not_change(self):
        for prime in (0, 7):
            plain = Plain(prime)
            one, other = fraction(plain, [1, 2], [1, 1]), fraction(plain, [3], [1, 2])
            for sign in [*SIGNS, operator.iadd, operator.isub, operator.imul, operator.eq]:
                sign(one, other)
            -one, one + 1, 1 - one, one.turned(), one.series(5), one.agreement(Series(Field(prime), [1, 2]))
            self.is_fraction(plain, one, [1, 2], [1, 1])
            self.is_fraction(plain, other, [3], [1, 2])

    def test_in_place_operators_give_a_new_fraction(self):
        for prime in (0, 7):
            plain = Plain(prime)
            for right in (fraction(plain, [1], [1, 2]), 1, Ratio(1, 2), 3):
                for sign, old_sign in [(operator.iadd, operator.add), (operator.isub, operator.sub),
                                       (operator.imul, operator.mul)]:
                    old = fraction(plain, [1, 2], [1, 1])
                    kept = old
                    old = sign(old, right)
                    self.assertIsNot(old, kept)
                    self.is_fraction(plain, kept, [1, 2], [1, 1])
                    self.assertTrue(old == old_sign(kept, right))
        old = kept
        old += 0
        self.assertIsNot(old, kept)
        self.assertTrue(old == kept)

    def test_long_operands(self):
        for prime in (0, 9973):
            chance = Chance(prime, "long")
            plain = chance.plain
            one, other = (chance.bottom(25), chance.bottom(30)), (chance.bottom(20), chance.bottom(28))
            for sign in SIGNS:
                top, bottom = parts(plain, sign, one, other)
                found = sign(fraction(plain, *one), fraction(plain, *other))
                # The lowest terms by hand would take too long with exact fractions.
                self.assertTrue(found.top * poly(plain, bottom) == found.bottom * poly(plain, top))
                self.number(plain, found.bottom.at(0), 1)
                self.assertEqual(gcd(found.top, found.bottom).degree, 0)


class TurnedTest(Case):

    def test_turned(self):
        for prime in PRIMES:
            chance = Chance(prime, "turned")
            plain = chance.plain
            for top, bottom in some_pairs(chance):
                found = fraction(plain, top, bottom)
                if found.top.at(0) == 0:
                    self.refused(NoFraction, "pole", found.turned)
                else:
                    self.is_fraction(plain, found.turned(), bottom, top)
                    self.assertTrue(found.turned().turned() == found)

    def test_pole(self):
        for prime in PRIMES:
            for top in ([0, 1], [0, 0, 1], [0, 1, 1]):
                self.refused(NoFraction, "pole", fraction(Plain(prime), top, [1]).turned)


class ListedTest(Case):

    def test_the_class_stands_in_its_module(self):
        self.listed(Fraction, "seriessquares.rationals", [
            "__init__", "__eq__", "__add__", "__radd__", "__sub__", "__rsub__", "__mul__", "__rmul__", "__neg__",
            "series", "agreement", "over", "turned",
        ])


if __name__ == "__main__":
    unittest.main()
