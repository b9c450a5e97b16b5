"""Points [49] and [50]."""

import unittest
from fractions import Fraction as Exact
from itertools import product

from cases import Case, fraction, poly, ratio, series
from others import no_integers, no_sequences, refused_numbers
from plain import PRIMES, Chance, Plain
from seriessquares import texts
from seriessquares.errors import NoNumber, NoText
from seriessquares.fields import Field
from seriessquares.polys import Poly
from seriessquares.ratios import Ratio
from seriessquares.rationals import Fraction
from seriessquares.series import Series
from seriessquares.texts import (
    fraction_text, number_text, poly_text, read_fraction, read_number, read_poly, read_series, series_text,
)

WORDS = [(read_number, "number"), (read_poly, "poly"), (read_fraction, "fraction"), (read_series, "series")]
NO_STRINGS = [each for each in [*no_integers(), *no_sequences(), 1, -1, ["1"], Poly(Field(), [1]), b"1"]
              if not isinstance(each, str)]

# Wrong texts of numbers in each field, and in those of the exact fractions and of the prime 7 alone.
NO_NUMBERS = ["", " ", "+1", "--1", "01", "00", "-01", "-0", "1 ", " 1", "1.0", "1,0", "1/", "/1", "1//2", "1/0", "0/1",
              "2/4", "1/1", "-1/1", "1/-2", "1/+2", "1/02", "- 1", "1 /2", "x", "1*x", "one", "1_0", "0x1", "1e1", "-",
              "1/2/3", "1\n", "\t1", "(1)", "None", "True", "1-", "1-2", "--", "3/6", "0/5"]


def number_by_hand(number):
    """The text of an exact fraction or of a number modulo a prime."""
    number = Exact(number)
    return f"{number.numerator}" + (f"/{number.denominator}" if number.denominator != 1 else "")


def poly_by_hand(row):
    """The text of a polynomial, term by term."""
    found = ""
    for k, number in enumerate(row):
        if number == 0:
            continue
        tail = "" if k == 0 else "*x" if k == 1 else "*x^" + str(k)
        if not found:
            found = number_by_hand(number) + tail
        elif number < 0:
            found += " - " + number_by_hand(-number) + tail
        else:
            found += " + " + number_by_hand(number) + tail
    return found or "0"


def rows(prime):
    """Polynomials with signs, zeros between, the coefficients 1 and -1, and several powers."""
    chance = Chance(prime, "texts")
    plain = chance.plain
    found = [[], [1], [-1], [0, 1], [0, -1], [0, 0, 1], [0, 0, -1], [1, 1, 1], [-1, -1, -1], [1, 0, -1, 0, 1],
             [0, 1, 0, 0, -1], [2, -3, 4, -5], [*[0] * 9, 1], [*[0] * 10, -1], [*[0] * 99, 1], [1, *[0] * 98, -2],
             [Exact(1, 2), Exact(-1, 3), 0, Exact(5, 11)] if prime == 0 else [3, 5, 0, 8]]
    found += [chance.poly(degree) for degree in (0, 1, 2, 5, 11, 40, 99)]
    return [plain.trim(row) for row in found]


class TextCase(Case):

    def no_text(self, read, field, text):
        word = [each for call, each in WORDS if call == read][0]
        self.refused(NoText, word, read, field, text)


class NumberTest(TextCase):

    def test_text_and_back(self):
        for prime in PRIMES:
            chance = Chance(prime, "number texts")
            plain = chance.plain
            for number in plain.row([0, 1, -1, 2, 10, *[chance.number() for _ in range(20)]]):
                text = number_by_hand(number)
                self.assertEqual(number_text(plain.field, ratio(number)), text)
                self.number(plain, read_number(plain.field, text), number)

    def test_all_numbers_of_a_prime_field(self):
        for prime in (2, 3, 101):
            for number in range(prime):
                self.assertEqual(number_text(Field(prime), number), str(number))
                self.number(Plain(prime), read_number(Field(prime), str(number)), number)
            for number in (prime, prime + 1, 10 * prime, 9973, -1, -prime):
                self.no_text(read_number, Field(prime), str(number))

    def test_the_text_of_any_number_that_stands_for_it(self):
        for value in (5, 12, -2, Ratio(1, 3), Ratio(5), 5 + 7 * 10 ** 30):
            self.assertEqual(number_text(Field(7), value), "5")
        for value in (5, Ratio(10, 2)):
            self.assertEqual(number_text(Field(), value), "5")
        self.assertEqual(number_text(number=Ratio(-6, 4), field=Field()), "-3/2")

    def test_no_number(self):
        for prime in PRIMES:
            for wrong in refused_numbers(prime):
                self.refused(NoNumber, None, number_text, Field(prime), wrong)

    def test_wrong_texts(self):
        for prime in PRIMES:
            for text in NO_NUMBERS:
                with self.subTest(prime=prime, text=text):
                    self.no_text(read_number, Field(prime), text)
        for text in ("-1", "1/2", "-1/2", "7", "8", "07", "12345678901234567890"):
            self.no_text(read_number, Field(7), text)
        self.number(Plain(0), read_number(Field(), "-1/2"), Exact(-1, 2))
        self.number(Plain(7), read_number(text="6", field=Field(7)), 6)

    def test_60_and_61_digits(self):
        most, more = "9" * 60, "1" + "0" * 60
        for text in (most, "-" + most, most + "/" + "7" * 60, "-1/" + most, most + "/4"):
            number = Exact(text)
            if number_by_hand(number) == text:
                self.number(Plain(0), read_number(Field(), text), number)
        self.number(Plain(0), read_number(Field(), "-" + most + "/1" + "0" * 59), Exact(-int(most), 10 ** 59))
        for text in (more, "-" + more, "1/" + more, more + "/3", "-" + more + "/3"):
            self.assertEqual(number_by_hand(Exact(text)), text)
            self.no_text(read_number, Field(), text)
        for text in ("0" * 60, "1" * 60, "0" * 61, "1" * 5000):
            self.no_text(read_number, Field(7), text)

    def test_no_string(self):
        for prime in (0, 7):
            for wrong in NO_STRINGS:
                self.no_text(read_number, Field(prime), wrong)

    def test_digits_of_other_scripts(self):
        for prime in (0, 7):
            for text in ("\u0661", "\u00b2", "\uff11"):
                self.no_text(read_number, Field(prime), text)


class PolyTest(TextCase):

    def test_text_and_back(self):
        for prime in PRIMES:
            plain = Plain(prime)
            for row in rows(prime):
                text = poly_by_hand(row)
                self.assertEqual(poly_text(poly(plain, row)), text)
                self.is_poly(plain, read_poly(plain.field, text), row)

    def test_some_texts(self):
        for row, text in [([], "0"), ([1], "1"), ([-1], "-1"), ([0, 1], "1*x"), ([0, -1], "-1*x"), ([0, 0, 1], "1*x^2"),
                          ([1, 1], "1 + 1*x"), ([1, -1], "1 - 1*x"), ([-2, 0, 0, -3], "-2 - 3*x^3"),
                          ([0, Ratio(-1, 2), Ratio(2, 3)], "-1/2*x + 2/3*x^2")]:
            self.assertEqual(poly_text(poly=Poly(Field(), row)), text)
            self.assertTrue(read_poly(text=text, field=Field()) == Poly(Field(), row))
        self.assertEqual(poly_text(Poly(Field(7), [-1, 0, 8])), "6 + 1*x^2")

    def test_the_example(self):
        self.assertEqual(poly_text(Poly(Field(), [-1, 0, 1, Ratio(-1, 3)])), "-1 + 1*x^2 - 1/3*x^3")

    def test_wrong_texts(self):
        wrong = ["", " ", "1 ", " 1", "+1", "1 +", "1 + ", " + 1", "- 1", "1 - ", " - 1", "1+1*x", "1 +1*x", "1+ 1*x",
                 "1  + 1*x", "1 +  1*x", "1 + 1*x ", "1 + x", "x", "-x", "1x", "1*", "*x", "1*x^0", "1*x^1", "1*x^01",
                 "1*x^02", "1*x^", "1*x^-2", "1*x^+2", "1*x^2*x", "1*x*x", "1*X", "1*y", "1* x", "1 *x", "1*x ^2",
                 "1*x^ 2", "1*x^2 ", "1*x + 1", "1*x^2 + 1*x", "1 + 1", "1*x + 1*x", "0 + 1*x", "1 + 0*x", "0*x", "0*x^3",
                 "1 + 0*x + 1*x^2", "-0", "00", "01", "1 + 01*x", "1 + +1*x", "1 - -1*x", "1 + -1*x", "1 - +1*x",
                 "1*x^100", "1*x^1000", "1*5", "1*x5", "1*xx", "1 + 1*x + ", "(1)", "1*x**2", "1 + 1*x - 0*x^2", "x^2",
                 "2/4", "1 + 2/4*x", "1/1", "1 - 1*x^2 - 1*x", "1 + 1*x^1", "1*x^2 + 1*x^2", "1*x - 1*x", "1\n"]
        for prime in PRIMES:
            for text in wrong:
                with self.subTest(prime=prime, text=text):
                    self.no_text(read_poly, Field(prime), text)
        for text in ("-1", "1 - 1*x", "7", "8*x", "1 + 7*x", "1/2", "1/2*x", "-1*x", "1 + 10*x^2", "6 + 1*x - 1*x^2"):
            self.no_text(read_poly, Field(7), text)

    def test_the_greatest_power(self):
        for prime in (0, 2, 7):
            plain = Plain(prime)
            self.is_poly(plain, read_poly(Field(prime), "1*x^99"), [*[0] * 99, 1])
            full = plain.row([1] * 100)
            self.is_poly(plain, read_poly(Field(prime), poly_by_hand(full)), full)
            long = poly(plain, [1] * 101)
            self.assertEqual(poly_text(long), poly_by_hand(plain.row([1] * 101)))
            self.no_text(read_poly, Field(prime), poly_text(long))
            for text in ("1*x^100", "1 + 1*x^100", "1*x^999", "1*x^" + "9" * 70, "1*x^099"):
                self.no_text(read_poly, Field(prime), text)

    def test_long_numbers(self):
        most, more = "9" * 60, "1" + "0" * 60
        for text in (most, f"1 - {most}*x", f"-1/{most} + {most}*x^2"):
            self.assertEqual(poly_text(read_poly(Field(), text)), text)
        for text in (more, f"1 - {more}*x", f"1 + 1/{more}*x", f"-{more}*x^2"):
            self.no_text(read_poly, Field(), text)

    def test_no_string(self):
        for prime in (0, 7):
            for wrong in NO_STRINGS:
                self.no_text(read_poly, Field(prime), wrong)

    def test_every_short_text(self):
        # Only what some polynomial is written as is read, and it is read as this one.
        for prime in (0, 3):
            plain = Plain(prime)
            numbers = range(3) if prime == 3 else range(-9, 10)
            told = {poly_by_hand(row): row for row in product(numbers, repeat=2)}
            for letters in product("012-*x+ ", repeat=3):
                text = "".join(letters)
                if text in told:
                    self.is_poly(plain, read_poly(Field(prime), text), plain.trim(told[text]))
                elif prime == 3 or not text.isdigit() and not text.lstrip("-").isdigit():
                    self.no_text(read_poly, Field(prime), text)


class FractionTest(TextCase):

    def fractions(self, prime):
        chance = Chance(prime, "fraction texts")
        for a, b in [(0, 0), (1, 0), (0, 1), (2, 1), (1, 3), (4, 4), (9, 12)]:
            yield chance.plain.lowest(chance.bottom(a), chance.bottom(b))
            yield chance.plain.lowest([0, *chance.bottom(a)], chance.bottom(b))

    def test_text_and_back(self):
        for prime in PRIMES:
            plain = Plain(prime)
            for top, bottom in self.fractions(prime):
                text = f"({poly_by_hand(top)})/({poly_by_hand(bottom)})"
                self.assertEqual(fraction_text(fraction(plain, top, bottom)), text)
                self.is_fraction(plain, read_fraction(plain.field, text), top, bottom)

    def test_some_texts(self):
        plain = Plain(0)
        one = fraction(plain, [1, Ratio(1, 2)], [1, Ratio(-1, 2)])
        self.assertEqual(fraction_text(fraction=one), "(1 + 1/2*x)/(1 - 1/2*x)")
        self.assertTrue(read_fraction(text="(1 + 1/2*x)/(1 - 1/2*x)", field=Field()) == one)
        self.assertEqual(fraction_text(fraction(Plain(5), [2], [2, 2])), "(1)/(1 + 1*x)")

    def test_the_example(self):
        self.no_text(read_fraction, Field(5), "(2)/(2 + 2*x)")
        self.is_fraction(Plain(5), read_fraction(Field(5), "(1)/(1 + 1*x)"), [1], [1, 1])

    def test_wrong_texts(self):
        good = "(1 + 1*x)/(1 + 1*x^2)"
        wrong = ["", "1", "1/1", "1 + 1*x", "()/()", "(1)", "(1)/", "/(1)", "(1)/()", "()/(1)", "(1)/1", "1/(1)", "(1/1)",
                 "(1) / (1)", " (1)/(1)", "(1)/(1) ", "((1))/(1)", "((1)/(1)", "(1)/(1))", "(1)/((1))", "1)/(1)", "(1)/(1",
                 "1)/(1", "(1)(1)", "(1)//(1)", "(1)/(1)/(1)", "[1]/[1]", "(1 )/(1)", "( 1)/(1)", "(1)/(01)", "(x)/(1)",
                 # Equal things that are written in another way, and what is no fraction.
                 "(0)/(1)", "(1)/(0)", "(1 + 1*x)/(1 + 1*x)", "(1*x)/(1*x)", "(1)/(1*x)", "(1 + 1*x)/(1*x)", "(0)/(0)",
                 "(1 + 1*x)/(1 + 2*x + 1*x^2)", good.replace(" ", ""), good + "\n", good.upper()]
        for prime in PRIMES:
            for text in wrong:
                with self.subTest(prime=prime, text=text):
                    self.no_text(read_fraction, Field(prime), text)
        for text in ("(2)/(2)", "(2)/(2 + 2*x)", "(1)/(2)", "(1)/(-1)", "(1)/(-1 + 1*x)", "(1)/(2 + 1*x)"):
            for prime in (0, 7):
                self.no_text(read_fraction, Field(prime), text)
        for text in ("(-1)/(1)", "(7)/(1)", "(1)/(1 + 7*x)", "(1)/(1 - 1*x)", "(1/2)/(1)"):
            self.no_text(read_fraction, Field(7), text)

    def test_limits(self):
        plain = Plain(0)
        self.assertEqual(fraction_text(read_fraction(Field(), "(1*x^99)/(1 + 1*x^99)")), "(1*x^99)/(1 + 1*x^99)")
        for text in ("(1*x^100)/(1)", "(1)/(1 + 1*x^100)", f"({'1' * 61})/(1)", f"(1)/(1 + 1/{'3' * 61}*x)"):
            self.no_text(read_fraction, Field(), text)
        long = fraction(plain, [1], [1, *[0] * 100, 1])
        self.assertEqual(fraction_text(long), "(1)/(1 + 1*x^101)")

    def test_no_string(self):
        for prime in (0, 7):
            for wrong in [*NO_STRINGS, Fraction(Poly(Field(prime), [1]), Poly(Field(prime), [1]))]:
                self.no_text(read_fraction, Field(prime), wrong)


class SeriesTest(TextCase):

    def test_text_and_back(self):
        for prime in PRIMES:
            chance = Chance(prime, "series texts")
            plain = chance.plain
            for row in [[1], [1, 0], [1, 0, 0, 1], [-1, 1, -1], *[chance.series(known) for known in (1, 2, 5, 32)]]:
                row = plain.row(row)
                text = ", ".join([number_by_hand(number) for number in row])
                self.assertEqual(series_text(series(plain, row)), text)
                self.is_series(plain, read_series(plain.field, text), row)

    def test_some_texts(self):
        known = Series(Field(), [1, 0, Ratio(-1, 2)])
        self.assertEqual(series_text(series=known), "1, 0, -1/2")
        self.assertTrue(read_series(text="1, 0, -1/2", field=Field()) == known)

    def test_wrong_texts(self):
        wrong = ["", ",", ", ", "0", "0, 1", "1,", "1, ", ", 1", "1,1", "1 ,1", "1 , 1", "1,  1", " 1, 1", "1, 1 ", "1; 1",
                 "1, , 1", "1 1", "[1, 1]", "1, 1,", "1, +1", "1, 01", "1, x", "01, 1", "1, 2/4", "1, 1/1", "1, -0", "0, 0",
                 "1,\n1", "1, 1\n"]
        for prime in PRIMES:
            for text in wrong:
                with self.subTest(prime=prime, text=text):
                    self.no_text(read_series, Field(prime), text)
        for text in ("7", "7, 1", "1, 7", "-1", "1, -1", "1, 1/2", "1, 8, 1"):
            self.no_text(read_series, Field(7), text)

    def test_32_and_33_numbers(self):
        for prime in (0, 7):
            plain = Plain(prime)
            self.is_series(plain, read_series(Field(prime), ", ".join(["1"] * 32)), [1] * 32)
            for many in (33, 34, 79, 100):
                self.no_text(read_series, Field(prime), ", ".join(["1"] * many))
            self.assertEqual(series_text(series(plain, [1] * 79)), ", ".join(["1"] * 79))

    def test_61_digits(self):
        self.no_text(read_series, Field(), "1, " + "1" * 61)
        self.no_text(read_series, Field(), "1, 1/" + "1" * 61)
        self.is_series(Plain(0), read_series(Field(), "1, " + "1" * 60), [1, int("1" * 60)])

    def test_no_string(self):
        for prime in (0, 7):
            for wrong in [*NO_STRINGS, Series(Field(prime), [1]), [1, 1], ("1", "1")]:
                self.no_text(read_series, Field(prime), wrong)


class ListedTest(unittest.TestCase):

    def test_the_functions_stand_in_their_module(self):
        for kind in ("number", "poly", "fraction", "series"):
            for name in (f"{kind}_text", f"read_{kind}"):
                self.assertEqual(getattr(texts, name).__module__, "seriessquares.texts")


if __name__ == "__main__":
    unittest.main()
