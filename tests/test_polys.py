"""Points [9] to [14], and what point [2] says of polynomials."""

import operator
import unittest

from cases import Case, passed, poly, ratio
from others import no_integers, no_sequences, refused_numbers
from plain import PRIMES, Chance, Plain
from seriessquares import polys
from seriessquares.errors import NoCount, NoNumber, NoPoly, OtherField
from seriessquares.fields import Field
from seriessquares.polys import Poly, gcd
from seriessquares.ratios import Ratio
from seriessquares.series import Series

SIGNS = [(operator.add, Plain.plus), (operator.sub, Plain.minus), (operator.mul, Plain.times)]
IN_PLACE = [(operator.iadd, Plain.plus), (operator.isub, Plain.minus), (operator.imul, Plain.times)]


def some_polys(chance):
    """Rows of several degrees, nothing among them."""
    return [chance.poly(degree) for degree in (-1, 0, 0, 1, 2, 2, 3, 5, 8)]


class MakingTest(Case):

    def test_zeros_at_the_end_are_dropped(self):
        for prime in PRIMES:
            plain = Plain(prime)
            for row in ([1], [1, 0], [0, 1, 0, 0], [0, 0, 1], [1, 0, 1, 0], [-1, 1, 0, 0, 0]):
                self.is_poly(plain, Poly(plain.field, row), row)
                self.is_poly(plain, Poly(plain.field, tuple(row)), row)

    def test_zeros_of_the_field_are_dropped(self):
        self.assertEqual(Poly(Field(3), [1, 6, 2, 3, Ratio(9, 2)]).coefficients, (1, 0, 2))
        self.assertEqual(Poly(Field(3), [3, -6, Ratio(3, 7)]).degree, -1)
        self.assertEqual(Poly(Field(), [3, 3, Ratio(0, 5)]).coefficients, (Ratio(3), Ratio(3)))

    def test_nothing(self):
        for prime in PRIMES:
            for row in ([], (), [0], [0, 0, 0], [Ratio(0)], [0] * 100):
                found = Poly(Field(prime), row)
                self.is_poly(Plain(prime), found, [])
                self.assertEqual((found.coefficients, found.degree), ((), -1))

    def test_every_number_is_taken_by_the_field(self):
        for prime in (0, 7, 9973):
            chance = Chance(prime, "taken")
            row = [chance.long() for _ in range(20)] + [1]
            if prime == 0:
                row += [Ratio(-1, 3), Ratio(4, 2)]
            self.is_poly(chance.plain, Poly(chance.plain.field, passed(row)), row)
        self.assertEqual(Poly(Field(7), [Ratio(1, 3), -1, 8]).coefficients, (5, 6, 1))

    def test_what_was_passed_is_kept_as_it_was(self):
        for prime in (0, 7):
            row = [1, 2, 3]
            found = Poly(Field(prime), row)
            row[0] = 5
            row.append(6)
            row[1:2] = []
            self.is_poly(Plain(prime), found, [1, 2, 3])

    def test_the_row_that_is_passed_is_not_changed(self):
        row = [1, Ratio(8, 2), 0, 0]
        Poly(Field(7), row)
        self.assertEqual(row, [1, Ratio(4), 0, 0])

    def test_100_elements_are_let(self):
        for prime in (0, 2, 101):
            plain = Plain(prime)
            for row in ([1] * 100, [0] * 99 + [1], [1] + [0] * 99):
                self.is_poly(plain, Poly(plain.field, row), row)
                self.is_poly(plain, Poly(plain.field, tuple(row)), row)

    def test_more_than_100_elements_are_refused(self):
        for prime in (0, 2):
            for row in ([1] * 101, [0] * 101, [1] + [0] * 100, [None] * 101, [1] * 300):
                self.refused(NoPoly, -1, Poly, Field(prime), row)
                self.refused(NoPoly, -1, Poly, Field(prime), tuple(row))

    def test_most(self):
        self.assertEqual(Poly.MOST, 100)
        self.assertIs(type(Poly.MOST), int)
        self.assertEqual(Poly(Field(), [1]).MOST, 100)

    def test_what_is_no_sequence_is_refused(self):
        for prime in (0, 7):
            for thing in [*no_sequences(), Poly(Field(prime), [1, 2]), Series(Field(prime), [1, 2])]:
                with self.subTest(prime=prime, thing=thing):
                    self.refused(NoPoly, -1, Poly, Field(prime), thing)

    def test_the_place_of_the_first_wrong_element(self):
        for prime in (0, 2, 7, 9973):
            for wrong in refused_numbers(prime):
                for place in (0, 1, 4):
                    row = [1, 0, 2, 3, 0, 1]
                    row[place] = wrong
                    with self.subTest(prime=prime, wrong=wrong, place=place):
                        self.refused(NoPoly, place, Poly, Field(prime), row)
                        self.refused(NoPoly, place, Poly, Field(prime), tuple(row))
                        row[5] = "wrong, too"
                        self.refused(NoPoly, place, Poly, Field(prime), row)

    def test_a_bottom_that_is_0_modulo_the_prime(self):
        self.refused(NoPoly, 2, Poly, Field(5), [1, Ratio(1, 3), Ratio(1, 5), Ratio(2, 15)])
        self.assertEqual(Poly(Field(3), [1, Ratio(1, 5)]).coefficients, (1, 2))
        self.assertEqual(Poly(Field(), [1, Ratio(1, 5)]).degree, 1)

    def test_a_wrong_element_at_the_last_of_100_places(self):
        self.refused(NoPoly, 99, Poly, Field(), [1] * 99 + [None])

    def test_by_name(self):
        self.is_poly(Plain(7), Poly(coefficients=[1, 2], field=Field(7)), [1, 2])


class CoefficientTest(Case):

    def test_within_and_beyond_the_degree(self):
        for prime in PRIMES:
            chance = Chance(prime, "coefficient")
            for row in some_polys(chance):
                found = poly(chance.plain, row)
                for k in range(len(row) + 4):
                    self.number(chance.plain, found.coefficient(k), row[k] if k < len(row) else 0)
                self.number(chance.plain, found.coefficient(10 ** 20), 0)
                self.number(chance.plain, found.coefficient(k=0), row[0] if row else 0)

    def test_no_index(self):
        for prime in (0, 7):
            for row in ([], [1, 2]):
                for k in [-1, -2, -10 ** 20, *no_integers()]:
                    with self.subTest(prime=prime, k=k):
                        self.refused(NoCount, None, Poly(Field(prime), row).coefficient, k)


class AtTest(Case):

    def test_values(self):
        for prime in PRIMES:
            chance = Chance(prime, "at")
            plain = chance.plain
            for row in some_polys(chance):
                found = poly(plain, row)
                for x in [0, 1, 2, -1, 10 ** 39, *[chance.number() for _ in range(4)], chance.long()]:
                    value = plain.value(row, plain.number(x))
                    self.number(plain, found.at(ratio(x)), value)
                    self.number(plain, found(ratio(x)), value)

    def test_at_ratios_modulo_a_prime(self):
        found = Poly(Field(7), [1, 2, 3])
        for call in (found, found.at):
            self.assertEqual(call(Ratio(1, 3)), (1 + 2 * 5 + 3 * 25) % 7)
            self.assertEqual(call(Ratio(7, 5)), 1)

    def test_at_by_name(self):
        self.assertEqual(Poly(Field(7), [1, 2]).at(x=3), 0)

    def test_no_number(self):
        for prime in (0, 2, 7, 9973):
            for row in ([], [1], [1, 1]):
                for x in refused_numbers(prime):
                    with self.subTest(prime=prime, row=row, x=x):
                        self.refused(NoNumber, None, Poly(Field(prime), row).at, x)
                        self.refused(NoNumber, None, Poly(Field(prime), row), x)


class OperatorsTest(Case):

    def test_two_polynomials(self):
        for prime in PRIMES:
            chance = Chance(prime, "two")
            plain = chance.plain
            for one in some_polys(chance):
                for other in some_polys(chance):
                    for sign, expected in SIGNS:
                        found = sign(poly(plain, one), poly(plain, other))
                        self.is_poly(plain, found, expected(plain, one, other))

    def test_highest_terms_that_cancel(self):
        for prime in (0, 3, 9973):
            plain = Plain(prime)
            one, other = Poly(plain.field, [1, 2, 1, 1]), Poly(plain.field, [2, 1, -1, -1])
            self.is_poly(plain, one + other, [3, 3])
            self.is_poly(plain, one - -other, [3, 3])
            self.is_poly(plain, one + -one, [])
            self.is_poly(plain, one - one, [])
            self.is_poly(plain, one - Poly(plain.field, [0, 2, 1, 1]), [1])
            self.is_poly(plain, one + Poly(plain.field, [0, 0, 0, -1]), [1, 2, 1])
        self.is_poly(Plain(2), Poly(Field(2), [1, 1]) + Poly(Field(2), [0, 1]), [1])

    def test_negative(self):
        for prime in PRIMES:
            chance = Chance(prime, "negative")
            for row in some_polys(chance):
                self.is_poly(chance.plain, -poly(chance.plain, row), chance.plain.negative(row))

    def test_a_number_on_either_side(self):
        for prime in PRIMES:
            chance = Chance(prime, "number")
            plain = chance.plain
            for row in some_polys(chance):
                for number in [0, 1, -1, 6, 10 ** 39, chance.number(), chance.long()]:
                    constant = plain.trim([number])
                    for sign, expected in SIGNS:
                        found = poly(plain, row)
                        self.is_poly(plain, sign(found, ratio(number)), expected(plain, row, constant))
                        self.is_poly(plain, sign(ratio(number), found), expected(plain, constant, row))

    def test_a_ratio_modulo_a_prime_on_either_side(self):
        found = Poly(Field(7), [1, 1])
        third = Ratio(1, 3)
        for result, row in [(found + third, (6, 1)), (third + found, (6, 1)), (found - third, (3, 1)),
                            (third - found, (4, 6)), (found * third, (5, 5)), (third * found, (5, 5))]:
            self.assertEqual(result.coefficients, row)

    def test_a_number_that_is_refused(self):
        for prime in (2, 7):
            found = Poly(Field(prime), [1, 1])
            for sign, _ in SIGNS:
                self.refused(NoNumber, None, sign, found, Ratio(1, prime))
                self.refused(NoNumber, None, sign, Ratio(1, prime), found)

    def test_other_fields(self):
        for one in (0, 2, 7):
            for other in (0, 2, 7):
                if one == other:
                    continue
                for left in ([], [1], [1, 1]):
                    for right in ([], [1], [1, 1]):
                        for sign, _ in SIGNS:
                            self.refused(OtherField, None, sign, Poly(Field(one), left), Poly(Field(other), right))

    def test_operands_do_not_change(self):
        for prime in (0, 7):
            plain = Plain(prime)
            one, other = Poly(plain.field, [1, 2, 3]), Poly(plain.field, [2, 1])
            for call in [*[sign for sign, _ in [*SIGNS, *IN_PLACE]], operator.floordiv, operator.mod,
                         Poly.divided, gcd, operator.eq]:
                call(one, other)
                call(other, one)
            one.monic(), -one, one + 1, 1 - one, one(2)
            self.is_poly(plain, one, [1, 2, 3])
            self.is_poly(plain, other, [2, 1])

    def test_in_place_operators_give_a_new_polynomial(self):
        for prime in (0, 7):
            plain = Plain(prime)
            for right in (Poly(plain.field, [1, 1]), Poly(plain.field, []), 0, 1, 3, Ratio(1, 2)):
                row = plain.row(right.coefficients) if isinstance(right, Poly) else plain.trim([right])
                for sign, expected in IN_PLACE:
                    old = Poly(plain.field, [1, 2, 3])
                    kept = old
                    old = sign(old, right)
                    self.assertIsNot(old, kept)
                    self.is_poly(plain, kept, [1, 2, 3])
                    self.is_poly(plain, old, expected(plain, plain.row([1, 2, 3]), row))

    def test_in_place_operators_onto_a_number(self):
        total = 5
        total += Poly(Field(7), [3, 1])
        self.assertEqual(total.coefficients, (1, 1))
        total = Ratio(1, 2)
        total -= Poly(Field(), [3, 1])
        self.assertEqual(total.coefficients, (Ratio(-5, 2), Ratio(-1)))

    def test_products_of_more_than_100_coefficients(self):
        for prime in (0, 2, 9973):
            chance = Chance(prime, "long")
            plain = chance.plain
            one, other = chance.poly(99), chance.poly(99)
            found = poly(plain, one) * poly(plain, other)
            row = plain.times(one, other)
            self.is_poly(plain, found, row)
            self.assertEqual(found.degree, 198)
            self.is_poly(plain, found + 1, plain.plus(row, [1]))
            self.is_poly(plain, 1 - found, plain.minus([1], row))
            self.is_poly(plain, -found, plain.negative(row))
            self.is_poly(plain, found // poly(plain, one), other)
            self.is_poly(plain, found % poly(plain, other), [])
            self.is_poly(plain, found.monic(), plain.monic(row))
            self.is_poly(plain, gcd(found, poly(plain, one)), plain.monic(one))
            self.number(plain, found.at(1), plain.value(row, plain.number(1)))
            self.number(plain, found.coefficient(198), row[198])
            self.assertEqual(found * found, found * found)

    def test_long_numbers(self):
        for prime in (0, 101):
            chance = Chance(prime, "digits")
            plain = chance.plain
            one, other = [chance.long() for _ in range(4)], [chance.long() for _ in range(3)]
            one, other = plain.trim(one), plain.trim(other)
            for sign, expected in SIGNS:
                self.is_poly(plain, sign(poly(plain, one), poly(plain, other)), expected(plain, one, other))


class EqualityTest(Case):

    def test_polynomials(self):
        rows = [[], [1], [2], [0, 1], [1, 1], [1, 0, 1], [1, 1, 0]]
        for prime in PRIMES:
            plain = Plain(prime)
            for one in rows:
                for other in rows:
                    expected = plain.trim(one) == plain.trim(other)
                    self.same(Poly(plain.field, one), Poly(Field(prime), other), expected)

    def test_other_fields_are_unequal(self):
        for row in ([], [1], [1, 1]):
            self.same(Poly(Field(2), row), Poly(Field(3), row), False)
            self.same(Poly(Field(), row), Poly(Field(3), row), False)

    def test_other_things_are_unequal(self):
        for prime in (0, 7):
            for row in ([], [1], [0, 1]):
                found = Poly(Field(prime), row)
                for other in [*no_integers(), 0, 1, found.coefficients, list(row), Series(Field(prime), [1])]:
                    with self.subTest(prime=prime, row=row, other=other):
                        self.same(found, other, False)


class DividedTest(Case):

    def test_against_dividing_by_hand(self):
        for prime in PRIMES:
            chance = Chance(prime, "divided")
            plain = chance.plain
            for one in some_polys(chance):
                for other in some_polys(chance):
                    if other == []:
                        continue
                    left, right = poly(plain, one), poly(plain, other)
                    pair = left.divided(right)
                    self.assertIs(type(pair), tuple)
                    quotient, rest = pair
                    expected = plain.divided(one, other)
                    self.is_poly(plain, quotient, expected[0])
                    self.is_poly(plain, rest, expected[1])
                    self.assertTrue(quotient * right + rest == left)
                    self.assertLess(rest.degree, right.degree)
                    self.assertTrue(left // right == quotient)
                    self.assertTrue(left % right == rest)

    def test_exact_division(self):
        for prime in PRIMES:
            chance = Chance(prime, "exact")
            plain = chance.plain
            for _ in range(10):
                one, other = chance.poly(4), chance.poly(3)
                quotient, rest = (poly(plain, one) * poly(plain, other)).divided(poly(plain, other))
                self.is_poly(plain, quotient, one)
                self.is_poly(plain, rest, [])

    def test_a_divisor_of_greater_degree(self):
        for prime in (0, 7):
            plain = Plain(prime)
            for row in ([], [2], [1, 2]):
                quotient, rest = Poly(plain.field, row).divided(Poly(plain.field, [1, 2, 3]))
                self.is_poly(plain, quotient, [])
                self.is_poly(plain, rest, row)

    def test_by_a_constant(self):
        self.assertEqual(Poly(Field(7), [1, 2]).divided(Poly(Field(7), [3]))[0].coefficients, (5, 3))
        quotient, rest = Poly(Field(), [1, 2]).divided(Poly(Field(), [Ratio(3, 2)]))
        self.assertEqual((quotient.coefficients, rest.degree), ((Ratio(2, 3), Ratio(4, 3)), -1))

    def test_a_long_dividend(self):
        for prime in (0, 3, 9973):
            chance = Chance(prime, "dividend")
            plain = chance.plain
            for one, other in [(chance.poly(99), chance.poly(1)), (chance.poly(99), chance.poly(50))]:
                quotient, rest = poly(plain, one).divided(poly(plain, other))
                expected = plain.divided(one, other)
                self.is_poly(plain, quotient, expected[0])
                self.is_poly(plain, rest, expected[1])

    def test_by_nothing(self):
        for prime in (0, 7):
            for row in ([], [1], [1, 2]):
                for call in (Poly.divided, operator.floordiv, operator.mod):
                    for empty in ([], [0, 0]):
                        one, nothing = Poly(Field(prime), row), Poly(Field(prime), empty)
                        self.refused(NoPoly, -1, call, one, nothing)

    def test_other_fields_come_before_nothing(self):
        for call in (Poly.divided, operator.floordiv, operator.mod):
            for row in ([], [1], [1, 2]):
                self.refused(OtherField, None, call, Poly(Field(7), [1, 2]), Poly(Field(), row))
                self.refused(OtherField, None, call, Poly(Field(), [1, 2]), Poly(Field(7), row))
                self.refused(OtherField, None, call, Poly(Field(5), []), Poly(Field(7), row))

    def test_in_place(self):
        old = Poly(Field(5), [1, 0, 3])
        kept = old
        old //= Poly(Field(5), [1, 2])
        self.assertEqual((old.coefficients, kept.coefficients), ((3, 4), (1, 0, 3)))
        old = kept
        old %= Poly(Field(5), [1, 2])
        self.assertEqual((old.coefficients, kept.coefficients), ((3,), (1, 0, 3)))

    def test_example_and_name(self):
        field = Field(5)
        quotient, rest = Poly(field, [1, 0, 3]).divided(other=Poly(field, [1, 2]))
        self.assertEqual([quotient.coefficients, rest.coefficients], [(3, 4), (3,)])


class MonicTest(Case):

    def test_monic(self):
        for prime in PRIMES:
            chance = Chance(prime, "monic")
            for row in some_polys(chance):
                self.is_poly(chance.plain, poly(chance.plain, row).monic(), chance.plain.monic(row))

    def test_monic_of_nothing(self):
        for prime in PRIMES:
            self.is_poly(Plain(prime), Poly(Field(prime), []).monic(), [])


class GcdTest(Case):

    def both(self, plain, one, other, expected):
        """Fail unless the divisor is the expected one in both orders."""
        self.is_poly(plain, gcd(poly(plain, one), poly(plain, other)), expected)
        self.is_poly(plain, gcd(poly(plain, other), poly(plain, one)), expected)

    def test_against_euclid_by_hand(self):
        for prime in PRIMES:
            chance = Chance(prime, "gcd")
            for one in some_polys(chance):
                for other in some_polys(chance):
                    self.both(chance.plain, one, other, chance.plain.gcd(one, other))

    def test_products_with_a_common_part(self):
        for prime in PRIMES:
            chance = Chance(prime, "common")
            plain = chance.plain
            for degree in (1, 2, 5):
                part = chance.poly(degree)
                one, other = plain.times(chance.poly(3), part), plain.times(chance.poly(4), part)
                expected = plain.gcd(one, other)
                self.assertEqual(plain.divided(expected, part)[1], [])
                self.both(plain, one, other, expected)
                self.both(plain, one, part, plain.monic(part))
                self.both(plain, part, part, plain.monic(part))

    def test_coprime_ones(self):
        for prime in (0, 3, 7):
            plain = Plain(prime)
            self.both(plain, plain.row([1, 1]), plain.row([2, 1]), [1])
            self.both(plain, plain.row([1, 2, 1]), plain.row([0, 1]), [1])
            self.both(plain, plain.row([2]), plain.row([1, 2, 1]), [1])
            self.both(plain, plain.row([2]), plain.row([1]), [1])

    def test_with_nothing(self):
        for prime in PRIMES:
            chance = Chance(prime, "nothing")
            for row in some_polys(chance):
                self.both(chance.plain, row, [], chance.plain.monic(row))
            self.is_poly(chance.plain, gcd(Poly(Field(prime), []), Poly(Field(prime), [0])), [])

    def test_a_common_part_modulo_the_sighting_prime_alone(self):
        large = 2 ** 61 - 1
        plain = Plain(0)
        self.both(plain, [1, 1], [1 + large, 1], [1])
        self.both(plain, [1, large], [1, 2 * large], [1])
        # Modulo this prime nothing is left of the highest term of the common part.
        part = [1, large]
        self.both(plain, plain.times(part, [1, 1]), plain.times(part, [2, 1]), plain.monic(part))
        self.both(plain, plain.times(part, [1, 2, 1]), plain.times(part, [2, large]), plain.monic(part))

    def test_long_polynomials(self):
        for prime in (0, 2, 9973):
            chance = Chance(prime, "long gcd")
            plain = chance.plain
            part = chance.poly(20)
            one, other = plain.times(chance.poly(25), part), plain.times(chance.poly(30), part)
            self.both(plain, one, other, plain.gcd(one, other))

    def test_other_fields(self):
        for row in ([], [1], [1, 1]):
            self.refused(OtherField, None, gcd, Poly(Field(), row), Poly(Field(7), [1, 1]))
            self.refused(OtherField, None, gcd, Poly(Field(7), [1, 1]), Poly(Field(), row))
            self.refused(OtherField, None, gcd, Poly(Field(5), []), Poly(Field(7), row))

    def test_by_name(self):
        self.assertEqual(gcd(other=Poly(Field(7), [2, 2]), one=Poly(Field(7), [])).coefficients, (1, 1))


class ListedTest(Case):

    def test_the_class_and_the_function_stand_in_their_module(self):
        self.listed(Poly, "seriessquares.polys", [
            "__init__", "__eq__", "__add__", "__radd__", "__sub__", "__rsub__", "__mul__", "__rmul__", "__neg__",
            "__floordiv__", "__mod__", "__call__", "coefficient", "at", "divided", "monic", "MOST",
        ])
        self.assertEqual(polys.gcd.__module__, "seriessquares.polys")


if __name__ == "__main__":
    unittest.main()
