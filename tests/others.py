"""Values of kinds that a test passes where a point names an error or asks whether something is so."""

from seriessquares.desk import Desk
from seriessquares.errors import NoCell, NoRatio, SeriesError
from seriessquares.fields import Field
from seriessquares.images import Moebius
from seriessquares.points import Passage
from seriessquares.polys import Poly
from seriessquares.ratios import Ratio
from seriessquares.rationals import Fraction
from seriessquares.reader import Reader
from seriessquares.roads import Stretch
from seriessquares.series import Series
from seriessquares.squares import Square


def no_integers():
    """Values that are no integers; some look like one."""
    return [
        True, False, None, "", "1", "0", "1/2", b"", b"1", [], [1], (), (1,), {}, {1: 1}, range(1), object(),
        int, len, Ratio, Ratio(1), Ratio(0), Field(), Field(7), SeriesError(), NoRatio("top"),
    ]


def no_numbers():
    """Values that are neither integers nor Ratios."""
    return [value for value in no_integers() if not isinstance(value, Ratio)]


def no_sequences():
    """Values that are neither lists nor tuples, though some hold numbers."""
    return [
        None, True, False, 0, 1, 7, Ratio(1), "", "12", b"", b"12", {}, {0: 1, 1: 2}, {1, 2}, range(1, 3), object(),
        list, len, Field(), SeriesError(), iter([1, 2]),
    ]


def refused_numbers(prime):
    """Values that the field of the prime refuses as numbers."""
    if prime == 0:
        return no_numbers()
    return [*no_numbers(), Ratio(1, prime), Ratio(-1, 11 * prime)]


def other_things():
    """Values of every kind, for questions that may be asked of anything."""
    nested = []
    for _ in range(50):
        nested = [nested]
    found = [*no_integers(), *no_sequences(), 0, 1, -1, 5, 10 ** 50, nested, {"a": [1, {2: (3, None)}]}, ValueError("x")]
    for prime in (0, 7):
        one = Poly(Field(prime), [1])
        unit = Fraction(one, one)
        found += [one, unit, Series(Field(prime), [1]), Square(0, 0, 1, True, unit), Square(None, [], "", 5, object()),
                  Stretch(0, 0, unit), Passage(one, one, ()), Passage(None, [], {}), Moebius(Field(prime), 1, 0, 0, 1),
                  Reader(Field(prime)), Desk(prime), NoCell("m")]
    return found
