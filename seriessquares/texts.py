"""Texts of numbers, polynomials, fractions and series, and what they are the texts of.

A thing has only one text: what is read is written again and compared, so that no other text of it is taken.
"""

from seriessquares.errors import NoFraction, NoRatio, NoSeries, NoText
from seriessquares.kinds import are_digits
from seriessquares.polys import Poly
from seriessquares.ratios import Ratio
from seriessquares.rationals import Fraction
from seriessquares.series import Series

MOST_DIGITS = 60


def _text(number):
    """The text of a number of a field."""
    return number.text() if isinstance(number, Ratio) else str(number)


def number_text(field, number):
    """The text of a number."""
    return _text(field.number(number))


def _term(number, power):
    if power == 0:
        return _text(number)
    if power == 1:
        return f"{_text(number)}*x"
    return f"{_text(number)}*x^{power}"


def poly_text(poly):
    """The text of a polynomial."""
    terms = [_term(number, power) for power, number in enumerate(poly.coefficients) if number != 0]
    if len(terms) == 0:
        return "0"
    found = terms[0]
    for term in terms[1:]:
        found = f"{found} - {term[1:]}" if term.startswith("-") else f"{found} + {term}"
    return found


def fraction_text(fraction):
    """The text of a fraction."""
    return f"({poly_text(fraction.top)})/({poly_text(fraction.bottom)})"


def series_text(series):
    """The text of the known coefficients."""
    return ", ".join([_text(number) for number in series.coefficients])


def read_number(field, text):
    """The number of this text; it raises NoText("number") if there is none."""
    if not isinstance(text, str):
        raise NoText("number")
    if field.prime == 0:
        try:
            return Ratio.read(text)
        except NoRatio:
            raise NoText("number") from None
    if not are_digits(text, MOST_DIGITS):
        raise NoText("number")
    number = int(text)
    if number >= field.prime or str(number) != text:
        raise NoText("number")
    return number


def _power(text):
    """The power that stands behind the number of a term; it raises NoText."""
    if text == "":
        return 0
    if text == "x":
        return 1
    digits = text.removeprefix("x^")
    # The greatest power has two digits.
    if not are_digits(digits, 2):
        raise NoText("poly")
    return int(digits)


def _read_terms(field, text):
    """The coefficients of the terms of a text, whatever their order; it raises NoText."""
    numbers = [0 for _ in range(Poly.MOST)]
    for term in text.replace(" - ", " + -").split(" + "):
        number, _, rest = term.partition("*")
        numbers[_power(rest)] = read_number(field, number)
    return numbers


def read_poly(field, text):
    """The polynomial of this text; it raises NoText("poly") if there is none."""
    if not isinstance(text, str):
        raise NoText("poly")
    try:
        found = Poly(field, _read_terms(field, text))
    except NoText:
        raise NoText("poly") from None
    if poly_text(found) != text:
        raise NoText("poly")
    return found


def read_fraction(field, text):
    """The fraction of this text; it raises NoText("fraction") if there is none."""
    if not isinstance(text, str):
        raise NoText("fraction")
    top, _, bottom = text.removeprefix("(").removesuffix(")").partition(")/(")
    try:
        found = Fraction(read_poly(field, top), read_poly(field, bottom))
    except (NoText, NoFraction):
        raise NoText("fraction") from None
    if fraction_text(found) != text:
        raise NoText("fraction")
    return found


def read_series(field, text):
    """The series of this text; it raises NoText("series") if there is none."""
    if not isinstance(text, str):
        raise NoText("series")
    try:
        found = Series(field, [read_number(field, each) for each in text.split(", ")])
    except (NoText, NoSeries):
        raise NoText("series") from None
    return found
