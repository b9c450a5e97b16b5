"""Points [3] to [6], and what point [2] says of Ratios."""

import operator
import unittest
from fractions import Fraction
from math import gcd

from others import no_integers, no_numbers
from seriessquares.errors import NoRatio
from seriessquares.fields import Field
from seriessquares.ratios import Ratio

LONG = 10 ** 300 + 7
SOME = [Fraction(top, bottom) for top in range(-4, 5) for bottom in range(1, 5)]
LONG_ONES = [Fraction(LONG, 3), Fraction(-LONG, LONG + 1), Fraction(2 ** 700, 3 ** 500)]
INTEGERS = [-LONG, -7, -2, -1, 0, 1, 2, 3, 12, LONG]
PLAIN = [operator.add, operator.sub, operator.mul]


def as_ratio(value):
    """The Ratio of a Fraction of Python."""
    return Ratio(value.numerator, value.denominator)


class RatioCase(unittest.TestCase):

    def holds(self, found, value):
        """Fail unless `found` is a Ratio that holds the Fraction `value` in lowest terms."""
        self.assertIs(type(found), Ratio)
        self.assertIs(type(found.top), int)
        self.assertIs(type(found.bottom), int)
        self.assertEqual((found.top, found.bottom), (value.numerator, value.denominator))

    def refused(self, word, call, *args, **named):
        """Fail unless the call raises NoRatio(word)."""
        with self.assertRaises(NoRatio) as caught:
            call(*args, **named)
        self.assertEqual(caught.exception.word, word)


class MakingTest(RatioCase):

    def test_lowest_terms(self):
        for top in range(-24, 25):
            for bottom in range(-24, 25):
                if bottom == 0:
                    continue
                with self.subTest(top=top, bottom=bottom):
                    ratio = Ratio(top, bottom)
                    self.holds(ratio, Fraction(top, bottom))
                    self.assertGreaterEqual(ratio.bottom, 1)
                    self.assertEqual(gcd(ratio.top, ratio.bottom), 1)

    def test_zero_is_0_over_1(self):
        for bottom in (1, -1, 6, -6, LONG, -LONG):
            ratio = Ratio(0, bottom)
            self.assertEqual((ratio.top, ratio.bottom), (0, 1))

    def test_the_default_bottom_is_1(self):
        for top in INTEGERS:
            ratio = Ratio(top)
            self.assertEqual((ratio.top, ratio.bottom), (top, 1))

    def test_long_numbers(self):
        for top, bottom in [(6 * LONG, -4), (LONG, LONG), (-LONG, 7 * LONG), (2 ** 5000, 6 ** 4000)]:
            self.holds(Ratio(top, bottom), Fraction(top, bottom))

    def test_arguments_by_name(self):
        ratio = Ratio(bottom=-4, top=6)
        self.assertEqual((ratio.top, ratio.bottom), (-3, 2))
        self.assertEqual(Ratio(top=5).top, 5)

    def test_no_integer_as_top(self):
        for value in no_integers():
            with self.subTest(value=value):
                self.refused("top", Ratio, value)
                self.refused("top", Ratio, value, 2)

    def test_no_integer_as_bottom(self):
        for value in no_integers():
            with self.subTest(value=value):
                self.refused("bottom", Ratio, 1, value)
                self.refused("bottom", Ratio, 0, value)

    def test_bottom_0(self):
        for top in INTEGERS:
            self.refused("zero", Ratio, top, 0)

    def test_top_comes_before_bottom_and_zero(self):
        for value in no_integers():
            with self.subTest(value=value):
                self.refused("top", Ratio, value, value)
                self.refused("top", Ratio, value, 0)


class OperatorsTest(RatioCase):

    def test_two_ratios(self):
        for sign in PLAIN:
            for a in SOME + LONG_ONES:
                for b in SOME + LONG_ONES:
                    self.holds(sign(as_ratio(a), as_ratio(b)), sign(a, b))

    def test_a_ratio_and_an_integer_on_either_side(self):
        for sign in PLAIN:
            for a in SOME + LONG_ONES:
                for b in INTEGERS:
                    self.holds(sign(as_ratio(a), b), sign(a, b))
                    self.holds(sign(b, as_ratio(a)), sign(b, a))

    def test_negative(self):
        for a in SOME + LONG_ONES:
            self.holds(-as_ratio(a), -a)

    def test_over(self):
        for a in SOME + LONG_ONES:
            for b in SOME + LONG_ONES:
                if b != 0:
                    self.holds(as_ratio(a).over(as_ratio(b)), a / b)
            for b in INTEGERS:
                if b != 0:
                    self.holds(as_ratio(a).over(b), a / b)

    def test_over_0(self):
        for a in SOME + LONG_ONES:
            self.refused("zero", as_ratio(a).over, 0)
            self.refused("zero", as_ratio(a).over, Ratio(0))
            self.refused("zero", as_ratio(a).over, Ratio(0, -5))

    def test_over_by_name(self):
        self.holds(Ratio(3).over(other=-6), Fraction(-1, 2))

    def test_operators_change_no_operand(self):
        for call in [*PLAIN, Ratio.over, operator.iadd, operator.isub, operator.imul]:
            a, b = Ratio(3, 4), Ratio(-5, 6)
            call(a, b)
            call(a, 7)
            -a
            self.assertEqual((a.top, a.bottom, b.top, b.bottom), (3, 4, -5, 6))

    def test_in_place_operators_give_a_new_ratio(self):
        for other in (Ratio(1, 3), 2, 0, 1):
            value = Fraction(other.top, other.bottom) if isinstance(other, Ratio) else other
            for sign, plain in [(operator.iadd, operator.add), (operator.isub, operator.sub),
                                (operator.imul, operator.mul)]:
                old = Ratio(3, 4)
                kept = old
                old = sign(old, other)
                self.holds(old, plain(Fraction(3, 4), value))
                self.assertIsNot(old, kept)
                self.holds(kept, Fraction(3, 4))

    def test_in_place_operators_onto_an_integer(self):
        total = 5
        total += Ratio(1, 2)
        self.holds(total, Fraction(11, 2))
        total = 5
        total -= Ratio(1, 2)
        self.holds(total, Fraction(9, 2))
        total = 5
        total *= Ratio(1, 2)
        self.holds(total, Fraction(5, 2))

    def test_there_is_no_order(self):
        for sign in (operator.lt, operator.le, operator.gt, operator.ge):
            with self.assertRaises(TypeError):
                sign(Ratio(1), Ratio(2))
            with self.assertRaises(TypeError):
                sign(Ratio(1), 2)


class EqualityTest(RatioCase):

    def same(self, one, other, expected):
        """Fail unless == and != tell `expected` and its opposite, on both sides."""
        self.assertIs(one == other, expected)
        self.assertIs(other == one, expected)
        self.assertIs(one != other, not expected)
        self.assertIs(other != one, not expected)

    def test_ratios(self):
        for a in SOME + LONG_ONES:
            for b in SOME + LONG_ONES:
                self.same(as_ratio(a), as_ratio(b), a == b)

    def test_ratios_that_were_written_in_another_way(self):
        self.same(Ratio(2, 4), Ratio(-1, -2), True)
        self.same(Ratio(0, 3), Ratio(0, -8), True)
        self.same(Ratio(1, 2), Ratio(-1, 2), False)

    def test_integers(self):
        for a in SOME + LONG_ONES:
            for b in INTEGERS:
                self.same(as_ratio(a), b, a == b)
        self.same(Ratio(LONG), LONG, True)
        self.same(Ratio(5, 2), 5, False)

    def test_other_things(self):
        others = [value for value in no_numbers() if not isinstance(value, bool)]
        for ratio in (Ratio(0), Ratio(1), Ratio(1, 2), Ratio(7)):
            for other in [*others, Field(), Field(7), "7", "1/2", [ratio], (ratio,), (1, 2)]:
                with self.subTest(ratio=ratio.text(), other=other):
                    self.same(ratio, other, False)


class TextTest(RatioCase):

    TEXTS = [
        ("0", 0, 1), ("1", 1, 1), ("-1", -1, 1), ("-5", -5, 1), ("3/4", 3, 4), ("-3/4", -3, 4), ("10", 10, 1),
        ("100/7", 100, 7), ("-1/10", -1, 10), ("1/2", 1, 2), ("9" * 60, 10 ** 60 - 1, 1),
        ("-" + "9" * 60, 1 - 10 ** 60, 1), ("1/1" + "0" * 59, 1, 10 ** 59),
        ("-" + "9" * 60 + "/1" + "0" * 59, 1 - 10 ** 60, 10 ** 59),
    ]

    NO_TEXTS = [
        "", " ", "+5", "+0", "+3/4", "3/+4", " 5", "5 ", "3 /4", "3/ 4", "- 5", "5\n", "\t5", "3/4\n", "05", "00",
        "-05", "03/4", "3/04", "-0", "-00", "0/1", "-0/1", "0/2", "3/1", "-3/1", "2/4", "-2/4", "4/2", "6/3",
        "1/0", "0/0", "-1/0", "1/00", "-", "--5", "5-", "-/", "/", "3/", "/4", "-/4", "3/-4", "-3/-4", "3//4",
        "3/4/5", "1/2/", "1.5", "1_000", "1e3", "0x10", "x", "three", "3:4", "1,2", "(1)", "\u0663", "\u00b2",
        "1/\u0663", "5%",
    ]

    def test_text(self):
        for text, top, bottom in self.TEXTS:
            self.assertEqual(Ratio(top, bottom).text(), text)
            self.assertEqual(Ratio(-6 * top, -6 * bottom).text(), text)

    def test_text_of_many_digits(self):
        self.assertEqual(Ratio(-10 ** 3999, 10 ** 3999 + 1).text(), "-1" + "0" * 3999 + "/1" + "0" * 3998 + "1")

    def test_read(self):
        for text, top, bottom in self.TEXTS:
            found = Ratio.read(text)
            self.holds(found, Fraction(top, bottom))

    def test_read_is_the_inverse_of_text(self):
        for top in range(-30, 31):
            for bottom in range(1, 31):
                ratio = Ratio(top, bottom)
                self.holds(Ratio.read(ratio.text()), Fraction(top, bottom))

    def test_read_refuses_what_is_no_text(self):
        for text in self.NO_TEXTS:
            with self.subTest(text=text):
                self.refused("text", Ratio.read, text)

    def test_read_refuses_what_is_no_string(self):
        for thing in [value for value in no_integers() if not isinstance(value, str)] + [0, 5, -1]:
            with self.subTest(thing=thing):
                self.refused("text", Ratio.read, thing)

    def test_read_takes_60_digits_above_and_below(self):
        most = 10 ** 60 - 1
        for top, bottom in [(most, 1), (-most, 1), (1, most), (-1, most), (most, most - 1), (1 - most, most)]:
            self.holds(Ratio.read(Ratio(top, bottom).text()), Fraction(top, bottom))

    def test_read_refuses_61_digits_above_or_below(self):
        long = 10 ** 60 + 1
        for top, bottom in [(long, 1), (-long, 1), (1, long), (-1, long), (long, 2), (2, long), (long, long + 1)]:
            self.refused("text", Ratio.read, Ratio(top, bottom).text())

    def test_read_refuses_texts_that_are_too_long_for_int(self):
        for text in ("7" * 5000, "-" + "7" * 5000, "1/" + "7" * 5000, "7" * 5000 + "/3"):
            self.refused("text", Ratio.read, text)

    def test_read_is_static_and_takes_its_argument_by_name(self):
        self.holds(Ratio(5).read("1/2"), Fraction(1, 2))
        self.holds(Ratio.read(text="-1/2"), Fraction(-1, 2))
        self.assertIsInstance(vars(Ratio)["read"], staticmethod)


class ListedTest(unittest.TestCase):

    def test_the_class_defines_what_the_interface_lists(self):
        self.assertEqual(Ratio.__module__, "seriessquares.ratios")
        self.assertEqual(Ratio.__bases__, (object,))
        for name in ("__add__", "__radd__", "__sub__", "__rsub__", "__mul__", "__rmul__", "__neg__", "__eq__",
                     "over", "text", "read"):
            self.assertIn(name, vars(Ratio))


if __name__ == "__main__":
    unittest.main()
