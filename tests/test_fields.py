"""Points [7] and [8], and what point [2] says of fields."""

import unittest

from others import no_integers, no_numbers
from seriessquares.errors import NoField, NoNumber
from seriessquares.fields import Field
from seriessquares.ratios import Ratio

LONG = 10 ** 39 + 3
PRIMES = [2, 3, 5, 7, 11, 97, 101, 4999, 9967, 9973]
VALUES = [-LONG, -9973, -100, -8, -7, -1, 0, 1, 2, 6, 7, 8, 100, 9972, 9973, 9974, LONG, 10 ** 300 + 1]
BOTTOMS = [2, 3, 6, 7, 35, 97, 9973, 9973 * 2, LONG]


def primes_below(end):
    """The primes below `end`, by the sieve."""
    barred = [True, True] + [False] * (end - 2)
    for step in range(2, end):
        for k in range(2 * step, end, step):
            barred[k] = True
    return [k for k in range(end) if not barred[k]]


class MakingTest(unittest.TestCase):

    def test_every_prime_up_to_9973_is_let_and_nothing_else(self):
        let = [0] + [prime for prime in primes_below(10200) if prime <= 9973]
        self.assertEqual(let[-1], 9973)
        self.assertEqual(len(let), 1230)
        for k in range(-30, 10200):
            if k in let:
                self.assertEqual(Field(k).prime, k)
                self.assertIs(type(Field(k).prime), int)
            else:
                with self.subTest(k=k), self.assertRaises(NoField):
                    Field(k)

    def test_far_numbers_are_refused(self):
        for k in (-9973, 10007, 65537, 2 ** 61 - 1, 9973 ** 2, -2 ** 61, 2 ** 89 - 1, 10 ** 40 + 7, -LONG):
            with self.subTest(k=k), self.assertRaises(NoField):
                Field(k)

    def test_the_default_is_0(self):
        self.assertEqual(Field().prime, 0)

    def test_the_prime_by_name(self):
        self.assertEqual(Field(prime=7).prime, 7)

    def test_things_of_other_kinds_are_refused(self):
        for value in [*no_integers(), "7", [7], (7,), {7: 7}, b"7", Ratio(7), Ratio(7, 2)]:
            with self.subTest(value=value), self.assertRaises(NoField):
                Field(value)


class EqualityTest(unittest.TestCase):

    def test_fields_are_equal_by_their_prime(self):
        for one in [0, *PRIMES]:
            for other in [0, *PRIMES]:
                self.assertIs(Field(one) == Field(other), one == other)
                self.assertIs(Field(one) != Field(other), one != other)

    def test_a_field_is_unequal_to_other_things(self):
        for prime in (0, 2, 7):
            others = [value for value in no_integers() if not isinstance(value, Field)]
            for other in [*others, 0, 2, 7, Ratio(7), Ratio(2), (prime,), [prime]]:
                with self.subTest(prime=prime, other=other):
                    self.assertIs(Field(prime) == other, False)
                    self.assertIs(other == Field(prime), False)
                    self.assertIs(Field(prime) != other, True)
                    self.assertIs(other != Field(prime), True)


class NumberTest(unittest.TestCase):

    def exact(self, found, top, bottom):
        """Fail unless `found` is the Ratio of these lowest terms."""
        self.assertIs(type(found), Ratio)
        self.assertEqual((found.top, found.bottom), (top, bottom))

    def modulo(self, found, prime):
        """Fail unless `found` is an integer from 0 to prime - 1."""
        self.assertIs(type(found), int)
        self.assertIn(found, range(prime))

    def test_integers_over_the_exact_fractions(self):
        for value in VALUES:
            self.exact(Field().number(value), value, 1)

    def test_ratios_over_the_exact_fractions(self):
        for top, bottom in [(0, 1), (1, 3), (-1, 3), (5, 1), (LONG, 7), (-7, LONG)]:
            self.exact(Field().number(Ratio(top, bottom)), top, bottom)

    def test_integers_modulo_a_prime(self):
        for prime in PRIMES:
            for value in VALUES:
                found = Field(prime).number(value)
                self.modulo(found, prime)
                self.assertEqual((found - value) % prime, 0)

    def test_ratios_modulo_a_prime(self):
        for prime in PRIMES:
            for top in VALUES:
                for bottom in BOTTOMS:
                    ratio = Ratio(top, bottom)
                    if ratio.bottom % prime == 0:
                        continue
                    with self.subTest(prime=prime, ratio=ratio.text()):
                        found = Field(prime).number(ratio)
                        self.modulo(found, prime)
                        self.assertEqual((found * ratio.bottom - ratio.top) % prime, 0)

    def test_every_ratio_of_small_primes(self):
        for prime in (2, 3, 5, 7, 11, 13):
            for top in range(-2 * prime, 2 * prime + 1):
                for bottom in range(1, prime):
                    ratio = Ratio(top, bottom)
                    found = Field(prime).number(ratio)
                    self.modulo(found, prime)
                    self.assertEqual((found * bottom - top) % prime, 0)

    def test_a_ratio_whose_bottom_is_0_modulo_the_prime(self):
        for prime in PRIMES:
            for top, bottom in [(1, prime), (-1, prime), (1, -5 * prime), (prime + 1, prime), (1, prime ** 3)]:
                with self.subTest(prime=prime, top=top, bottom=bottom), self.assertRaises(NoNumber):
                    Field(prime).number(Ratio(top, bottom))

    def test_a_bottom_that_lowest_terms_take_away(self):
        self.assertEqual(Field(7).number(Ratio(7, 7)), 1)
        self.assertEqual(Field(7).number(Ratio(0, 7)), 0)
        self.assertEqual(Field(7).number(Ratio(14, 7)), 2)

    def test_what_is_no_number(self):
        for prime in (0, 2, 7, 9973):
            for value in no_numbers():
                with self.subTest(prime=prime, value=value), self.assertRaises(NoNumber):
                    Field(prime).number(value)

    def test_the_value_by_name(self):
        self.assertEqual(Field(7).number(value=-1), 6)

    def test_example(self):
        self.assertEqual(Field(7).number(Ratio(1, 3)), 5)

    def test_nothing_changes(self):
        field, value = Field(7), Ratio(10, 3)
        field.number(value)
        field.over(value, value)
        Field().number(value)
        Field().over(value, value)
        self.assertEqual((field.prime, value.top, value.bottom), (7, 10, 3))


class OverTest(unittest.TestCase):

    def test_over_the_exact_fractions(self):
        numbers = [-LONG, -3, -1, 1, 2, LONG, Ratio(1, 2), Ratio(-7, 3), Ratio(LONG, 2)]
        for one in [0, Ratio(0), *numbers]:
            for other in numbers:
                found = Field().over(one, other)
                self.assertIs(type(found), Ratio)
                self.assertIs(found * other == one, True)

    def test_modulo_every_pair_of_small_primes(self):
        for prime in (2, 3, 5, 7, 11, 13):
            for one in range(-prime, 2 * prime):
                for other in range(-prime, 2 * prime):
                    if other % prime == 0:
                        continue
                    found = Field(prime).over(one, other)
                    self.assertIs(type(found), int)
                    self.assertIn(found, range(prime))
                    self.assertEqual((found * other - one) % prime, 0)

    def test_every_number_of_the_greatest_prime(self):
        field = Field(9973)
        for other in range(1, 9973):
            self.assertEqual(field.over(1, other) * other % 9973, 1)

    def test_ratios_and_long_numbers_modulo_a_prime(self):
        for prime in (11, 101, 9967):
            field = Field(prime)
            for one in (Ratio(1, 2), Ratio(-5, 3), -LONG, LONG):
                for other in (Ratio(1, 2), Ratio(-5, 3), -LONG, LONG):
                    found = field.over(one, other)
                    self.assertIn(found, range(prime))
                    self.assertEqual(found * field.number(other) % prime, field.number(one))

    def test_over_0(self):
        zeros = {0: [0, Ratio(0)], 2: [0, 2, -4, Ratio(2, 3)], 7: [0, 14, -7, Ratio(7, 2), Ratio(0)]}
        for prime, nothing in zeros.items():
            for one in (0, 1, 5, Ratio(1, 3)):
                for other in nothing:
                    with self.subTest(prime=prime), self.assertRaises(NoNumber):
                        Field(prime).over(one, other)

    def test_what_is_no_number(self):
        for prime in (0, 2, 7, 9973):
            for value in no_numbers():
                with self.subTest(prime=prime, value=value):
                    with self.assertRaises(NoNumber):
                        Field(prime).over(value, 1)
                    with self.assertRaises(NoNumber):
                        Field(prime).over(1, value)
                    with self.assertRaises(NoNumber):
                        Field(prime).over(value, 0)
                    with self.assertRaises(NoNumber):
                        Field(prime).over(value, value)

    def test_a_ratio_whose_bottom_is_0_modulo_the_prime(self):
        with self.assertRaises(NoNumber):
            Field(7).over(Ratio(1, 7), 1)
        with self.assertRaises(NoNumber):
            Field(7).over(1, Ratio(1, 7))

    def test_arguments_by_name(self):
        self.assertEqual(Field(7).over(other=3, one=1), 5)

    def test_example(self):
        with self.assertRaises(NoNumber):
            Field(7).over(3, 14)


class ListedTest(unittest.TestCase):

    def test_the_class_defines_what_the_interface_lists(self):
        self.assertEqual(Field.__module__, "seriessquares.fields")
        self.assertEqual(Field.__bases__, (object,))
        for name in ("__eq__", "number", "over"):
            self.assertIn(name, vars(Field))


if __name__ == "__main__":
    unittest.main()
