"""Shortest recurrences of the known coefficients of a series."""

from math import gcd
from seriessquares.euclid import shortened
from seriessquares.kinds import is_a_sequence
from seriessquares.rows import added, convolved, taken, trimmed, whole


def _without(row, miss, before, before_miss, shift, prime):
    """before_miss * row - miss * x ** shift * before, up to a factor."""
    common = gcd(miss, before_miss)
    shifted = [*[0 for _ in range(shift)], *[-miss // common * each for each in before]]
    return shortened(trimmed(added([before_miss // common * each for each in row], shifted), prime), prime)


def _shortest(row, prime):
    """The lengths of all beginnings of a row of integers, and a shortest recurrence of all of it.

    The recurrence is a row q0, .., qL of integers, without zeros at its end, with q0 c(i) + .. + qL c(i - L) = 0 for
    each index i from the length on, and q0 not 0 (Berlekamp and Massey).
    """
    lengths, steps, now = [], 0, [1]
    # What held before the length grew last, by how much it missed there, and how long ago that was.
    before, before_miss, shift = [1], 1, 1
    for index in range(len(row)):
        miss = convolved(now, row, index)
        if prime != 0:
            miss = miss % prime
        if miss != 0:
            better = _without(now, miss, before, before_miss, shift, prime)
            if 2 * steps <= index:
                steps = index + 1 - steps
                before, before_miss, shift = now, miss, 0
            now = better
        shift = shift + 1
        lengths.append(steps)
    return lengths, now


def profile(series):
    """The lengths of all beginnings of the series."""
    row, _ = whole(series.field, series.coefficients)
    return _shortest(row, series.field.prime)[0]


def length(series):
    """The least length of a recurrence."""
    return profile(series)[-1]


def recurrence(series):
    """A recurrence of the least length."""
    field = series.field
    row, _ = whole(field, series.coefficients)
    lengths, found = _shortest(row, field.prime)
    numbers = [field.over(-each, found[0]) for each in found[1:]]
    return [*numbers, *[field.number(0) for _ in range(lengths[-1] - len(numbers))]]


def check_recurrence(series, candidate):
    """Whether the candidate is a list or tuple of the numbers of a shortest recurrence."""
    if not is_a_sequence(candidate) or len(candidate) != length(series):
        return False
    numbers = taken(series.field, candidate)
    if len(numbers) < len(candidate):
        return False
    factors, scale = whole(series.field, numbers)
    row, _ = whole(series.field, series.coefficients)
    due = [-scale, *factors]
    return all([series.field.number(convolved(due, row, index)) == 0 for index in range(len(factors), len(row))])


def outlook(series):
    """The length, the greatest one with one more coefficient, and the number with which the length stays, or None."""
    field = series.field
    row, scale = whole(field, series.coefficients)
    lengths, found = _shortest(row, field.prime)
    now = lengths[-1]
    if 2 * now > series.known:
        return now, now, None
    missing = convolved(found, [*row, 0], series.known)
    return now, series.known + 1 - now, field.over(-missing, found[0] * scale)
