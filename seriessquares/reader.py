"""A reader that takes the coefficients of a series one by one."""

from seriessquares.errors import Full, NoBack, NoSeries
from seriessquares.finding import simplest
from seriessquares.going import going_on
from seriessquares.kinds import is_a_sequence
from seriessquares.ready import Ready
from seriessquares.rows import taken
from seriessquares.series import Series
from seriessquares.table import open_squares, own_square


def _closed_squares(held, series):
    """The known squares that a series closes with its last coefficient; the held numbers are the others."""
    if len(held) == 0:
        return []
    # What misses just the last coefficient fits the others.
    before = Series(series.field, Ready(held))
    found = [own_square(series, square.fraction) for square in open_squares(before)]
    return [square for square in found if square.closed]


class Trying:
    """A block at whose end a reader holds again what it held at the beginning."""

    def __init__(self, reader):
        self._reader = reader
        self._before = ()

    def __enter__(self):
        self._before = self._reader._held
        return self._reader

    def __exit__(self, kind, value, trace):
        self._reader._held = self._before


class Reader:
    """Holds the numbers that it has taken; they are the first coefficients of a series."""

    MOST = 32

    def __init__(self, field):
        self.field = field
        self._held = ()

    def __len__(self):
        return len(self._held)

    @property
    def numbers(self):
        return self._held

    @numbers.setter
    def numbers(self, value):
        if is_a_sequence(value) and len(value) == 0:
            self._held = ()
        else:
            self._held = Series(self.field, value).coefficients

    def take(self, number):
        """Take one more number; the list of the known squares that it has closed."""
        last = self.field.number(number)
        if len(self._held) == self.MOST:
            raise Full()
        series = Series(self.field, Ready([*self._held, last]))
        closed = _closed_squares(self._held, series)
        self._held = series.coefficients
        return closed

    def back(self):
        """Remove the last number and return it."""
        if len(self._held) == 0:
            raise NoBack()
        last = self._held[-1]
        self._held = self._held[:-1]
        return last

    def __iadd__(self, other):
        if not is_a_sequence(other) or len(self._held) + len(other) > self.MOST:
            raise NoSeries(-1)
        row = taken(self.field, other)
        if len(row) < len(other):
            raise NoSeries(len(row))
        self.numbers = [*self._held, *row]
        return self

    def series(self):
        """The series of the numbers held."""
        if len(self._held) == 0:
            raise NoSeries(-1)
        return Series(self.field, Ready(self._held))

    def opened(self):
        """The open known squares of the series, one after the other."""
        if len(self._held) > 0:
            for square in open_squares(self.series()):
                yield square

    def expected(self):
        """The number with which the simplest fraction of the series goes on."""
        series = self.series()
        return going_on(simplest(series), series.known)

    def trying(self):
        """A block for `with`; at its end the reader holds again what it held at the beginning."""
        return Trying(self)


def fill(reader, numbers):
    """Let the reader hold these numbers, and return it."""
    reader.numbers = numbers
    return reader


def foretold(reader, numbers):
    """What `take` would return for the numbers, one behind the other; the reader keeps what it holds."""
    if not is_a_sequence(numbers):
        raise NoSeries(-1)
    with reader.trying() as same:
        return [same.take(number) for number in numbers]
