"""Points [15] to [19], and what point [2] says of series."""

import operator
import unittest
from math import comb

from cases import Case, passed, ratio, series
from others import no_integers, no_sequences, refused_numbers
from plain import PRIMES, Chance, Plain
from seriessquares.errors import NoCount, NoNumber, NoSeries, OtherField
from seriessquares.fields import Field
from seriessquares.polys import Poly
from seriessquares.ratios import Ratio
from seriessquares.series import Series

SIGNS = [operator.add, operator.sub, operator.mul, Series.over]
LENGTHS = [(1, 1), (1, 5), (6, 2), (4, 4), (9, 12), (32, 32), (32, 10)]


def by_hand(plain, sign, one, other):
    """The row of the sum, difference, product or quotient of two rows, as far as both are known."""
    count = min(len(one), len(other))
    if sign is operator.add:
        return plain.row([one[k] + other[k] for k in range(count)])
    if sign is operator.sub:
        return plain.row([one[k] - other[k] for k in range(count)])
    if sign is operator.mul:
        return plain.row([sum(one[j] * other[k - j] for j in range(k + 1)) for k in range(count)])
    return plain.expanded(one, other, count)


class MakingTest(Case):

    def test_1_to_32_elements(self):
        for prime in PRIMES:
            chance = Chance(prime, "making")
            for count in range(1, 33):
                row = chance.series(count)
                self.is_series(chance.plain, Series(chance.plain.field, passed(row)), row)
                self.is_series(chance.plain, Series(chance.plain.field, tuple(passed(row))), row)

    def test_zeros_at_the_end_are_kept(self):
        for prime in (0, 2, 7):
            for row in ([1, 0], [1, 0, 1, 0, 0], [1] + [0] * 31):
                self.is_series(Plain(prime), Series(Field(prime), row), row)

    def test_every_number_is_taken_by_the_field(self):
        self.assertEqual(Series(Field(7), [Ratio(1, 3), -1, 14, Ratio(7, 2)]).coefficients, (5, 6, 0, 0))
        for prime in (0, 101):
            chance = Chance(prime, "taken")
            row = [1, *[chance.long() for _ in range(31)]]
            self.is_series(chance.plain, Series(chance.plain.field, passed(row)), row)

    def test_other_counts(self):
        for prime in (0, 7):
            for row in ([], [1] * 33, [0] * 33, [None] * 33, [1] * 79, [1] * 80):
                self.refused(NoSeries, -1, Series, Field(prime), row)
                self.refused(NoSeries, -1, Series, Field(prime), tuple(row))

    def test_what_is_no_sequence(self):
        for prime in (0, 7):
            for thing in [*no_sequences(), Series(Field(prime), [1, 2]), Poly(Field(prime), [1, 2])]:
                with self.subTest(prime=prime, thing=thing):
                    self.refused(NoSeries, -1, Series, Field(prime), thing)

    def test_the_place_of_the_first_wrong_element(self):
        for prime in (0, 2, 7, 9973):
            for wrong in refused_numbers(prime):
                for place in (0, 1, 4):
                    row = [1, 0, 2, 3, 0, 1]
                    row[place] = wrong
                    with self.subTest(prime=prime, wrong=wrong, place=place):
                        self.refused(NoSeries, place, Series, Field(prime), row)
                        row[5] = "wrong, too"
                        self.refused(NoSeries, place, Series, Field(prime), tuple(row))
                        row[0] = 0 if place > 0 else row[0]
                        self.refused(NoSeries, place, Series, Field(prime), row)

    def test_the_first_coefficient_is_not_0(self):
        for row in ([0], [0, 1], [0, 0, 0], [Ratio(0), 1], [0] + [1] * 31):
            for prime in (0, 2, 7):
                self.refused(NoSeries, 0, Series, Field(prime), row)
        for row in ([7], [-14, 1], [Ratio(7, 3), 1]):
            self.refused(NoSeries, 0, Series, Field(7), row)
            Series(Field(), row)

    def test_what_was_passed_is_kept_as_it_was(self):
        for prime in (0, 7):
            row = [1, 2, 3]
            found = Series(Field(prime), row)
            row[0] = 5
            row.append(6)
            self.is_series(Plain(prime), found, [1, 2, 3])
            self.assertEqual(row, [5, 2, 3, 6])

    def test_by_name(self):
        self.is_series(Plain(7), Series(coefficients=[1, 2], field=Field(7)), [1, 2])


class FirstTest(Case):

    def test_first(self):
        for prime in (0, 2, 7):
            chance = Chance(prime, "first")
            for known in (1, 2, 32, 79):
                row = chance.series(known)
                whole = series(chance.plain, row)
                for count in range(1, known + 1):
                    self.is_series(chance.plain, whole.first(count), row[:count])
                self.is_series(chance.plain, whole.first(count=1), row[:1])
                self.is_series(chance.plain, whole, row)

    def test_no_count(self):
        for known in (1, 5, 79):
            whole = series(Plain(7), [1] * known)
            for count in [0, -1, known + 1, 80, 10 ** 20, *no_integers()]:
                with self.subTest(known=known, count=count):
                    self.refused(NoCount, None, whole.first, count)


class ThenTest(Case):

    def test_none_and_some(self):
        for prime in PRIMES:
            chance = Chance(prime, "then")
            plain = chance.plain
            for known in (1, 3, 32):
                for more in (0, 1, 2, 40, 79 - known):
                    row = chance.series(known)
                    numbers = [chance.number() for _ in range(more)]
                    old = Series(plain.field, passed(row))
                    self.is_series(plain, old.then(passed(numbers)), row + numbers)
                    self.is_series(plain, old.then(tuple(passed(numbers))), row + numbers)
                    self.is_series(plain, old.then(numbers=[]), row)
                    self.is_series(plain, old, row)

    def test_numbers_are_taken_by_the_field(self):
        self.assertEqual(Series(Field(7), [1]).then([Ratio(1, 3), -1, 0, 14]).coefficients, (1, 5, 6, 0, 0))
        self.assertEqual(Series(Field(), [1]).then([2]).coefficients, (Ratio(1), Ratio(2)))

    def test_step_by_step_up_to_79(self):
        for prime in (0, 2):
            found = Series(Field(prime), [1])
            for known in range(2, 80):
                found = found.then([known])
                self.assertEqual((found.known, len(found)), (known, known))
            self.is_series(Plain(prime), found, range(1, 80))
            self.is_series(Plain(prime), found.then([]), range(1, 80))
            self.refused(NoSeries, -1, found.then, [1])
            self.refused(NoSeries, -1, found.then, ("wrong",))

    def test_more_than_79(self):
        for known, more in [(1, 79), (32, 48), (32, 100), (79, 1), (60, 20)]:
            old = series(Plain(7), [1] * known)
            self.refused(NoSeries, -1, old.then, [1] * more)
            self.refused(NoSeries, -1, old.then, [None] * more)
            self.assertEqual(old.then([1] * (79 - known)).known, 79)

    def test_what_is_no_sequence(self):
        for known in (1, 79):
            for thing in [*no_sequences(), Series(Field(7), [1])]:
                with self.subTest(known=known, thing=thing):
                    self.refused(NoSeries, -1, series(Plain(7), [1] * known).then, thing)

    def test_places(self):
        for prime in (0, 2, 7):
            for wrong in refused_numbers(prime):
                for place in (0, 1, 3):
                    numbers = [0, 1, 0, 1, 1]
                    numbers[place] = wrong
                    with self.subTest(prime=prime, wrong=wrong, place=place):
                        self.refused(NoSeries, place, Series(Field(prime), [1, 1]).then, numbers)
                        numbers[4] = None
                        self.refused(NoSeries, place, Series(Field(prime), [1, 1]).then, tuple(numbers))

    def test_what_was_passed_is_kept_as_it_was(self):
        numbers = [2, 3]
        found = Series(Field(7), [1]).then(numbers)
        numbers[0] = 6
        self.assertEqual((found.coefficients, numbers), ((1, 2, 3), [6, 3]))


class OperatorsTest(Case):

    def compare(self, plain, sign, one, other):
        """Fail unless the operation is as by hand, or refused where its first coefficient is 0."""
        row = by_hand(plain, sign, one, other)
        left, right = series(plain, one), series(plain, other)
        if row[0] == 0:
            self.refused(NoSeries, 0, sign, left, right)
        else:
            self.is_series(plain, sign(left, right), row)

    def test_unlike_lengths(self):
        for prime in PRIMES:
            chance = Chance(prime, "lengths")
            for one, other in LENGTHS:
                for sign in SIGNS:
                    for _ in range(3):
                        self.compare(chance.plain, sign, chance.series(one), chance.series(other))

    def test_up_to_79_coefficients(self):
        for prime in PRIMES:
            chance = Chance(prime, "79")
            for one, other in [(79, 79), (79, 40), (33, 79)]:
                for sign in SIGNS:
                    self.compare(chance.plain, sign, chance.series(one), chance.series(other))

    def test_long_numbers(self):
        for prime in (0, 101):
            chance = Chance(prime, "digits")
            for sign in SIGNS:
                one = [1, *[chance.long() for _ in range(4)]]
                other = [3, *[chance.long() for _ in range(5)]]
                self.compare(chance.plain, sign, one, other)

    def test_over_is_the_inverse_of_the_product(self):
        for prime in PRIMES:
            chance = Chance(prime, "over")
            one, other = series(chance.plain, chance.series(20)), series(chance.plain, chance.series(20))
            self.assertTrue(one.over(other) * other == one)
            self.assertTrue((one * other).over(other) == one)
            self.is_series(chance.plain, one.over(one), [1] + [0] * 19)

    def test_a_number_on_either_side_of_a_product(self):
        for prime in PRIMES:
            chance = Chance(prime, "number")
            plain = chance.plain
            for count in (1, 7, 79):
                row = chance.series(count)
                for number in [1, -1, 10 ** 39 + 7, chance.nonzero(), chance.long()]:
                    expected = plain.row([each * plain.number(number) for each in row])
                    if expected[0] == 0:
                        continue
                    self.is_series(plain, series(plain, row) * ratio(number), expected)
                    self.is_series(plain, ratio(number) * series(plain, row), expected)

    def test_a_ratio_modulo_a_prime(self):
        one = Series(Field(7), [1, 2])
        self.assertEqual((one * Ratio(1, 3)).coefficients, (5, 3))
        self.assertEqual((Ratio(1, 3) * one).coefficients, (5, 3))

    def test_a_product_by_0(self):
        for prime, zeros in [(0, [0, Ratio(0)]), (7, [0, 7, -14, Ratio(7, 2), Ratio(0)])]:
            for zero in zeros:
                self.refused(NoSeries, 0, operator.mul, Series(Field(prime), [1, 2]), zero)
                self.refused(NoSeries, 0, operator.mul, zero, Series(Field(prime), [1, 2]))

    def test_a_number_that_is_refused(self):
        for prime in (2, 7):
            self.refused(NoNumber, None, operator.mul, Series(Field(prime), [1]), Ratio(1, prime))
            self.refused(NoNumber, None, operator.mul, Ratio(1, prime), Series(Field(prime), [1]))

    def test_negative(self):
        for prime in PRIMES:
            chance = Chance(prime, "negative")
            for count in (1, 6, 79):
                row = chance.series(count)
                self.is_series(chance.plain, -series(chance.plain, row), chance.plain.row([-each for each in row]))

    def test_first_coefficients_that_cancel(self):
        for prime in (0, 7):
            one = Series(Field(prime), [1, 2, 3])
            self.refused(NoSeries, 0, operator.sub, one, one)
            self.refused(NoSeries, 0, operator.sub, one, Series(Field(prime), [1, 5]))
            self.refused(NoSeries, 0, operator.add, one, -one)
        self.refused(NoSeries, 0, operator.add, Series(Field(2), [1, 1]), Series(Field(2), [1, 0]))
        self.refused(NoSeries, 0, operator.add, Series(Field(7), [3]), Series(Field(7), [4, 1]))
        self.is_series(Plain(0), Series(Field(), [3]) + Series(Field(), [4, 1]), [7])

    def test_other_fields_come_first(self):
        for one, other in [(0, 7), (7, 0), (2, 3)]:
            for sign in SIGNS:
                for row in ([1], [1, 2], [-1, 1]):
                    self.refused(OtherField, None, sign, Series(Field(one), [1, 1]), Series(Field(other), row))

    def test_operands_do_not_change(self):
        for prime in (0, 7):
            plain = Plain(prime)
            one, other = Series(plain.field, [1, 2, 3]), Series(plain.field, [2, 1])
            for sign in [*SIGNS, operator.iadd, operator.isub, operator.imul, operator.eq]:
                sign(one, other)
            one.bent(2), one.scaled(2), -one, one * 2, 2 * one, one.then([1]), one.first(1)
            self.is_series(plain, one, [1, 2, 3])
            self.is_series(plain, other, [2, 1])

    def test_in_place_operators_give_a_new_series(self):
        for prime in (0, 7):
            plain = Plain(prime)
            cases = [(operator.iadd, Series(plain.field, [2, 1]), [3, 3]),
                     (operator.isub, Series(plain.field, [2, 1]), [-1, 1]),
                     (operator.imul, Series(plain.field, [2, 1]), [2, 5]),
                     (operator.imul, 1, [1, 2, 3]), (operator.imul, Ratio(1, 2), [Ratio(1, 2), 1, Ratio(3, 2)])]
            for sign, right, expected in cases:
                old = Series(plain.field, [1, 2, 3])
                kept = old
                old = sign(old, right)
                self.assertIsNot(old, kept)
                self.is_series(plain, kept, [1, 2, 3])
                self.is_series(plain, old, expected)

    def test_by_name(self):
        self.is_series(Plain(7), Series(Field(7), [1]).over(other=Series(Field(7), [3, 1])), [5])


class ScaledTest(Case):

    def test_scaled(self):
        for prime in PRIMES:
            chance = Chance(prime, "scaled")
            plain = chance.plain
            for count in (1, 8, 79):
                row = chance.series(count)
                for t in [1, -1, chance.nonzero(), chance.nonzero()]:
                    expected = plain.row([each * plain.number(t) ** k for k, each in enumerate(row)])
                    self.is_series(plain, series(plain, row).scaled(ratio(t)), expected)

    def test_scaled_by_a_ratio_modulo_a_prime(self):
        self.assertEqual(Series(Field(7), [1, 1, 1]).scaled(Ratio(1, 3)).coefficients, (1, 5, 4))
        self.assertEqual(Series(Field(7), [1, 1, 1]).scaled(t=-6).coefficients, (1, 1, 1))

    def test_scaled_by_0(self):
        for prime, zeros in [(0, [0, Ratio(0)]), (7, [0, 7, -14, Ratio(7, 2)])]:
            for zero in zeros:
                self.refused(NoNumber, None, Series(Field(prime), [1, 2]).scaled, zero)
                self.refused(NoNumber, None, Series(Field(prime), [1]).scaled, zero)

    def test_no_number(self):
        for prime in (0, 2, 7):
            for t in refused_numbers(prime):
                with self.subTest(prime=prime, t=t):
                    self.refused(NoNumber, None, Series(Field(prime), [1, 2]).scaled, t)
                    self.refused(NoNumber, None, Series(Field(prime), [1, 2]).bent, t)
                    self.refused(NoNumber, None, Series(Field(prime), [1]).bent, t)


class BentTest(Case):

    def test_against_the_binomial_sum(self):
        for prime in PRIMES:
            chance = Chance(prime, "bent")
            plain = chance.plain
            for count in (1, 2, 8, 32, 79):
                row = chance.series(count)
                for t in [1, -1, chance.number(), chance.number()]:
                    number = plain.number(t)
                    expected = [row[0]]
                    for n in range(1, count):
                        expected.append(sum(row[k] * comb(n - 1, k - 1) * (-number) ** (n - k)
                                            for k in range(1, n + 1)))
                    self.is_series(plain, series(plain, row).bent(ratio(t)), plain.row(expected))

    def test_against_putting_in_x_over_1_plus_t_x(self):
        for prime in (0, 3, 7):
            chance = Chance(prime, "put in")
            plain = chance.plain
            row, t = chance.series(10), chance.nonzero()
            inner = plain.expanded([0, 1], plain.row([1, t]), 10)
            power, total = [1], []
            for each in row:
                total = plain.plus(total, plain.times([each], power))
                power = plain.times(power, inner)[:10]
            total = [*total, *[0] * 10][:10]
            self.is_series(plain, series(plain, row).bent(ratio(t)), total)

    def test_bent_by_0(self):
        for prime in PRIMES:
            chance = Chance(prime, "0")
            row = chance.series(12)
            self.is_series(chance.plain, series(chance.plain, row).bent(0), row)
        self.assertEqual(Series(Field(7), [1, 2, 3]).bent(14).coefficients, (1, 2, 3))

    def test_bending_twice(self):
        for prime in PRIMES:
            chance = Chance(prime, "twice")
            for count in (5, 30):
                whole = series(chance.plain, chance.series(count))
                s, t = chance.number(), chance.number()
                once = whole.bent(ratio(chance.plain.number(s + t)))
                self.assertTrue(whole.bent(ratio(s)).bent(ratio(t)) == once)
                self.assertTrue(whole.bent(ratio(t)).bent(ratio(chance.plain.number(-t))) == whole)

    def test_example_and_name(self):
        self.assertEqual(Series(Field(11), [1, 1, 0, 0]).bent(1).coefficients, (1, 1, 10, 1))
        self.assertEqual(Series(Field(11), [1, 1, 0, 0]).bent(t=Ratio(2, 2)).coefficients, (1, 1, 10, 1))


class EqualityTest(Case):

    def test_series(self):
        rows = [[1], [2], [1, 0], [1, 0, 0], [1, 1], [1, 1, 0]]
        for prime in PRIMES:
            plain = Plain(prime)
            for one in rows:
                for other in rows:
                    if plain.number(one[0]) != 0 and plain.number(other[0]) != 0:
                        expected = plain.row(one) == plain.row(other)
                        self.same(Series(plain.field, one), Series(Field(prime), other), expected)

    def test_other_fields_and_things_are_unequal(self):
        self.same(Series(Field(2), [1, 1]), Series(Field(3), [1, 1]), False)
        self.same(Series(Field(), [1, 1]), Series(Field(3), [1, 1]), False)
        for prime in (0, 7):
            found = Series(Field(prime), [1, 1])
            for other in [*no_integers(), 0, 1, found.coefficients, list(found.coefficients), Poly(Field(prime), [1, 1])]:
                with self.subTest(prime=prime, other=other):
                    self.same(found, other, False)

    def test_equal_series_made_in_different_ways(self):
        self.same(Series(Field(7), [1, 2, 3]), Series(Field(7), [8]).then([9, Ratio(9, 3)]), True)
        self.same(Series(Field(), [1, 2, 3, 4]).first(3), Series(Field(), (Ratio(2, 2), 2, 3)), True)


class ListedTest(Case):

    def test_the_class_stands_in_its_module(self):
        self.listed(Series, "seriessquares.series", [
            "__init__", "__len__", "__eq__", "__add__", "__sub__", "__mul__", "__rmul__", "__neg__", "first", "then",
            "over", "scaled", "bent",
        ])


if __name__ == "__main__":
    unittest.main()
