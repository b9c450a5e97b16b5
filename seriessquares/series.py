"""Power series over a field, of which the first coefficients are known."""

from seriessquares.errors import NoCount, NoNumber, NoSeries
from seriessquares.fields import check_same_field
from seriessquares.kinds import is_a_sequence, is_from_to
from seriessquares.ratios import is_number
from seriessquares.ready import Ready
from seriessquares.rows import multiplied, numbers_of, power_series, scaled_row, taken, whole

MOST_PASSED = 32
MOST_KNOWN = 79


def _numbers(field, values):
    """The numbers of the field that the values of a sequence stand for; it raises NoSeries."""
    numbers = taken(field, values)
    if len(numbers) < len(values):
        raise NoSeries(len(numbers))
    return numbers


def _row(field, coefficients):
    """The numbers that a Series is given; it raises NoSeries."""
    if isinstance(coefficients, Ready):
        return coefficients.row
    if not is_a_sequence(coefficients) or not 1 <= len(coefficients) <= MOST_PASSED:
        raise NoSeries(-1)
    return _numbers(field, coefficients)


class Series:
    """The first coefficients of a power series that does not begin with 0."""

    def __init__(self, field, coefficients):
        row = _row(field, coefficients)
        if row[0] == 0:
            raise NoSeries(0)
        self.field = field
        self.coefficients = tuple(row)
        self.known = len(row)

    def __len__(self):
        return len(self.coefficients)

    def __eq__(self, other):
        return isinstance(other, Series) and self.field == other.field and self.coefficients == other.coefficients

    def first(self, count):
        """The series of the first `count` coefficients."""
        if not is_from_to(count, 1, self.known):
            raise NoCount()
        return Series(self.field, Ready(self.coefficients[:count]))

    def then(self, numbers):
        """The series that continues with the numbers."""
        if not is_a_sequence(numbers) or self.known + len(numbers) > MOST_KNOWN:
            raise NoSeries(-1)
        return Series(self.field, Ready([*self.coefficients, *_numbers(self.field, numbers)]))

    def __add__(self, other):
        if not isinstance(other, Series):
            return NotImplemented
        check_same_field(self, other)
        sums = [one + two for one, two in zip(self.coefficients, other.coefficients)]
        return Series(self.field, Ready([self.field.number(each) for each in sums]))

    def __sub__(self, other):
        if not isinstance(other, Series):
            return NotImplemented
        return self + -other

    def __mul__(self, other):
        if is_number(other):
            number = self.field.number(other)
            return Series(self.field, Ready([self.field.number(each * number) for each in self.coefficients]))
        if not isinstance(other, Series):
            return NotImplemented
        check_same_field(self, other)
        count = min(self.known, other.known)
        row, scale = whole(self.field, self.coefficients[:count])
        other_row, other_scale = whole(self.field, other.coefficients[:count])
        found = multiplied(row, other_row)[:count]
        return Series(self.field, Ready(numbers_of(self.field, found, scale * other_scale)))

    def __rmul__(self, other):
        if not is_number(other):
            return NotImplemented
        return self * other

    def __neg__(self):
        return self * -1

    def over(self, other):
        """The series whose product with `other` is this one."""
        check_same_field(self, other)
        count = min(self.known, other.known)
        return Series(self.field, Ready(power_series(self.field, self.coefficients, other.coefficients, count)))

    def scaled(self, t):
        """The series of f(t x)."""
        number = self.field.number(t)
        if number == 0:
            raise NoNumber()
        return Series(self.field, Ready(scaled_row(self.field, self.coefficients, number)))

    def bent(self, t):
        """The series of f(x / (1 + t x))."""
        number = self.field.number(t)
        row = []
        # With y for x / (1 + t x), it is c0 + y (c1 + y (c2 + ..)), worked out from the inside.
        for coefficient in reversed(self.coefficients):
            outer = [coefficient]
            last = self.field.number(0)
            for each in row:
                last = self.field.number(each - number * last)
                outer.append(last)
            row = outer
        return Series(self.field, Ready(row))
