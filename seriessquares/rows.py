"""Rows of numbers of a field, and the rows of integers that stand for them while something is worked out.

A row begins with the coefficient of the power 0. Integers spare exact fractions most of their greatest common
divisors: one bottom serves a whole row.
"""

from math import lcm
from seriessquares.errors import NoNumber
from seriessquares.ratios import Ratio


def taken(field, values):
    """The numbers that the values stand for, up to the first value that stands for none."""
    numbers = []
    for value in values:
        try:
            numbers.append(field.number(value))
        except NoNumber:
            return numbers
    return numbers


def whole(field, numbers):
    """Integers and a bottom: each number of the field is its integer over the bottom."""
    if field.prime != 0:
        return list(numbers), 1
    bottom = 1
    for number in numbers:
        bottom = lcm(bottom, number.bottom)
    return [number.top * (bottom // number.bottom) for number in numbers], bottom


def numbers_of(field, row, bottom):
    """The numbers of the field that the integers over the bottom are."""
    if field.prime == 0:
        return [Ratio(each, bottom) for each in row]
    factor = field.over(1, bottom)
    return [each * factor % field.prime for each in row]


def trimmed(row, prime):
    """The row of integers, modulo the prime if it is not 0, without the zeros at its end."""
    if prime != 0:
        row = [each % prime for each in row]
    many = len(row)
    while many > 0 and row[many - 1] == 0:
        many = many - 1
    return row[:many]


def added(ones, others):
    """The sums of what stands at the same places; a row goes on with zeros."""
    longer, shorter = ones, others
    if len(ones) < len(others):
        longer, shorter = others, ones
    return [*[one + other for one, other in zip(longer, shorter)], *longer[len(shorter):]]


def multiplied(ones, others):
    """The product of two rows of integers."""
    found = [0 for _ in range(len(ones) + len(others) - 1)]
    for i, one in enumerate(ones):
        for j, other in enumerate(others):
            found[i + j] = found[i + j] + one * other
    return found


def scaled_row(field, row, number):
    """The numbers of the row, each multiplied by the number to the power of its index."""
    power = field.number(1)
    found = []
    for each in row:
        found.append(field.number(each * power))
        power = field.number(power * number)
    return found


def convolved(ones, others, index):
    """The coefficient of this index of the product of two rows; the second one reaches at least to the index."""
    return sum([ones[k] * others[index - k] for k in range(min(index + 1, len(ones)))])


def _joined(field, row, bottom, number):
    """The integers and their bottom with one more number of the field behind them."""
    if field.prime != 0:
        return [*row, number], 1
    shared = lcm(bottom, number.bottom)
    return [*[each * (shared // bottom) for each in row], number.top * (shared // number.bottom)], shared


def power_series(field, tops, bottoms, count):
    """The first `count` coefficients of the power series tops / bottoms; bottoms does not begin with 0."""
    top_row, top_scale = whole(field, tops)
    row, scale = whole(field, bottoms)
    numbers = []
    # What is known so far, as integers with one bottom; a 0 keeps the place of the next coefficient.
    known, shared = [], 1
    for index in range(count):
        top = top_row[index] * scale * shared if index < len(top_row) else 0
        before = convolved(row, [*known, 0], index)
        number = field.over(top - before * top_scale, row[0] * top_scale * shared)
        numbers.append(number)
        known, shared = _joined(field, known, shared, number)
    return numbers


def first_miss(field, tops, bottoms, numbers):
    """The least index at which the power series tops / bottoms is not as the numbers say, or None."""
    top_row, top_scale = whole(field, tops)
    bottom_row, bottom_scale = whole(field, bottoms)
    row, scale = whole(field, numbers)
    for index in range(len(row)):
        due = top_row[index] * bottom_scale * scale if index < len(top_row) else 0
        if field.number(convolved(bottom_row, row, index) * top_scale - due) != 0:
            return index
    return None
