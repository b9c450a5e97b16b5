"""Point [51]."""

import inspect
import unittest
from itertools import product

import by_hand
from cases import Case, passed, ratio, series
from others import no_sequences, refused_numbers
from plain import PRIMES, Chance, Plain, notable_rows
from seriessquares import reader as reader_module
from seriessquares.errors import Full, NoBack, NoNumber, NoSeries
from seriessquares.fields import Field
from seriessquares.finding import simplest
from seriessquares.going import going_on
from seriessquares.ratios import Ratio
from seriessquares.reader import Reader, fill, foretold
from seriessquares.series import Series
from seriessquares.squares import Square
from seriessquares.table import squares

# What by_hand tells of the squares of a row, by the prime and the row.
TOLD = {}


def told_squares(plain, row):
    key = (plain.prime, tuple(row))
    if key not in TOLD:
        TOLD[key] = by_hand.known_squares(plain, row)
    return TOLD[key]


def reading(plain, row):
    """A reader that holds the row."""
    return fill(Reader(plain.field), passed(row))


class ReaderCase(Case):

    def holds(self, plain, reader, row):
        """Fail unless the reader holds just these numbers."""
        self.assertIs(type(reader), Reader)
        self.assertTrue(reader.field == plain.field)
        self.numbers(plain, reader.numbers, row)
        self.assertEqual(len(reader), len(row))

    def are_squares(self, plain, found, told):
        """Fail unless these are the squares that by_hand tells, in this order."""
        self.assertEqual(len(found), len(told))
        for square, (m, n, size, closed, pair) in zip(found, told):
            self.assertIs(type(square), Square)
            self.assertEqual((square.m, square.n, square.size), (m, n, size))
            self.assertIs(square.closed, closed)
            self.is_fraction(plain, square.fraction, *pair)

    def closed_by(self, plain, row):
        """The closed squares of a row that miss just the last coefficient."""
        return [each for each in told_squares(plain, row) if each[3] and sum(each[:3]) == len(row) - 1]

    def states(self, prime):
        """Readers that hold none, some and 32 numbers, each with its numbers."""
        plain = Plain(prime)
        for row in ([], [1], [1, 0, 0, 1], [1, *[0] * 31], plain.row([1, 2, 3, 4] * 8)):
            if not row or plain.number(row[0]) != 0:
                yield plain, reading(plain, row), plain.row(row)


class TakeTest(ReaderCase):

    def test_the_squares_that_are_closed(self):
        for prime in PRIMES:
            plain = Plain(prime)
            for row in notable_rows(prime):
                reader = Reader(Field(prime))
                self.holds(plain, reader, [])
                for many, number in enumerate(row, 1):
                    found = reader.take(ratio(number))
                    self.assertIs(type(found), list)
                    self.are_squares(plain, found, self.closed_by(plain, row[:many]))
                    self.holds(plain, reader, row[:many])

    def test_just_the_squares_of_the_new_series_that_miss_the_new_coefficient(self):
        for prime in PRIMES:
            chance = Chance(prime, "take")
            rows = [chance.series(32 if prime != 0 else 16), [1, *[0] * 15, 1, *[0] * 15],
                    [*chance.plain.expanded(chance.bottom(4), chance.bottom(4), 20), *chance.series(5)]]
            for row in rows:
                reader = Reader(Field(prime))
                for many, number in enumerate(row, 1):
                    found = reader.take(ratio(number))
                    expected = [each for each in squares(series(chance.plain, row[:many]))
                                if each.closed and each.m + each.n + each.size == many - 1]
                    self.assertTrue(found == expected)

    def test_every_short_row(self):
        for prime, known in [(2, 6), (3, 4)]:
            plain = Plain(prime)
            for row in product(range(prime), repeat=known):
                if row[0] != 0:
                    found = reading(plain, row[:-1]).take(row[-1])
                    self.are_squares(plain, found, self.closed_by(plain, list(row)))

    def test_the_example(self):
        reader = Reader(Field())
        for number in (1, 0, 0, 0):
            self.assertEqual(reader.take(number), [])
        found = reader.take(1)
        self.are_squares(Plain(0), found, [(0, 0, 4, True, ([1], [1]))])

    def test_numbers_are_taken_by_the_field(self):
        reader = Reader(Field(7))
        for number in (8, -1, Ratio(1, 3), 10 ** 30):
            reader.take(number=number)
        self.holds(Plain(7), reader, [1, 6, 5, 10 ** 30])

    def test_no_number_comes_first(self):
        for prime in PRIMES:
            for plain, reader, row in self.states(prime):
                for wrong in refused_numbers(prime):
                    self.refused(NoNumber, None, reader.take, wrong)
                self.holds(plain, reader, row)

    def test_full(self):
        for prime in PRIMES:
            plain = Plain(prime)
            row = plain.row([1, *[0] * 30])
            reader = reading(plain, row)
            self.assertEqual(Reader.MOST, 32)
            reader.take(1)
            for number in (0, 1, Ratio(1, 11), prime):
                self.refused(Full, None, reader.take, number)
            self.holds(plain, reader, [*row, 1])
            reader.back()
            reader.take(0)
            self.holds(plain, reader, [*row, 0])

    def test_0_is_no_first_number(self):
        for prime in PRIMES:
            reader = Reader(Field(prime))
            for zero in (0, Ratio(0), prime, -5 * prime):
                self.refused(NoSeries, 0, reader.take, zero)
            self.holds(Plain(prime), reader, [])
            reader.take(1)
            reader.take(0)
            self.holds(Plain(prime), reader, [1, 0])

    def test_the_list_is_new(self):
        reader = reading(Plain(7), [1, 0])
        found = reader.take(1)
        found.clear()
        reader.back()
        self.assertEqual(len(reader.take(1)), 1)


class BackTest(ReaderCase):

    def test_one_behind_the_other(self):
        for prime in PRIMES:
            for plain, reader, row in self.states(prime):
                for many in reversed(range(len(row))):
                    found = reader.back()
                    self.number(plain, found, row[many])
                    self.holds(plain, reader, row[:many])
                for _ in range(2):
                    self.refused(NoBack, None, reader.back)
                self.holds(plain, reader, [])

    def test_whatever_was_held_before(self):
        for prime in PRIMES:
            plain = Plain(prime)
            for row in notable_rows(prime)[::3]:
                reader, other = reading(plain, [1, 1, 0, 1]), Reader(Field(prime))
                reader.take(1)
                for _ in range(5):
                    reader.back()
                for number in row:
                    self.assertTrue(reader.take(ratio(number)) == other.take(ratio(number)))
                    reader.take(1)
                    reader.back()
                    self.assertTrue(reader.series() == other.series())
                    self.assertTrue(reader.expected() == other.expected())
                    self.assertTrue(list(reader.opened()) == list(other.opened()))


class NumbersTest(ReaderCase):

    def test_a_tuple_that_can_be_assigned(self):
        for prime in PRIMES:
            for plain, reader, row in self.states(prime):
                self.assertIs(type(reader.numbers), tuple)
                for kind in (list, tuple):
                    for new in ([1], [1, 0, 5], [], [1] * 32):
                        reader.numbers = kind(new)
                        self.holds(plain, reader, new)

    def test_no_series(self):
        for prime in PRIMES:
            for plain, reader, row in self.states(prime):
                bad = refused_numbers(prime)
                wrong = [(each, -1) for each in no_sequences()]
                wrong += [([1] * 33, -1), ([None] * 33, -1), ([0], 0), ((0, 1), 0), ([prime, 1], 0), ([Ratio(0), 1], 0)]
                wrong += [([each, 1], 0) for each in bad] + [([1, each, each], 1) for each in bad]
                wrong += [([0, None], 1), ((0, 1, None, 1), 2)]
                for value, place in wrong:
                    self.refused(NoSeries, place, setattr, reader, "numbers", value)
                    self.refused(NoSeries, place, fill, reader, value)
                self.holds(plain, reader, row)

    def test_fill_returns_the_reader(self):
        for prime in PRIMES:
            for plain, reader, row in self.states(prime):
                for new in ([1, 0, 1], (1,), [], ()):
                    self.assertIs(fill(reader, new), reader)
                    self.holds(plain, reader, new)
                self.assertIs(fill(numbers=[1], reader=reader), reader)

    def test_a_list_that_is_changed_after_the_call(self):
        reader = Reader(Field(7))
        for change in (lambda rows: setattr(reader, "numbers", rows), lambda rows: fill(reader, rows)):
            row = [1, 9, 3]
            change(row)
            self.assertEqual(row, [1, 9, 3])
            row[1] = 5
            row.append(4)
            self.holds(Plain(7), reader, [1, 2, 3])
        row = [1, 9]
        reader += row
        row.clear()
        self.holds(Plain(7), reader, [1, 2, 3, 1, 2])

    def test_it_cannot_be_changed_by_the_tuple_of_before(self):
        reader = reading(Plain(7), [1, 2])
        before = reader.numbers
        reader.take(3)
        self.assertEqual(before, (1, 2))
        reader.numbers = before
        self.holds(Plain(7), reader, [1, 2])


class PlusTest(ReaderCase):

    def test_the_same_reader_takes_all(self):
        for prime in PRIMES:
            for plain, reader, row in self.states(prime):
                for more in ([1, 0, 1], (1, 1), [1], [], ()):
                    if len(row) + len(more) <= 32:
                        kept = reader
                        reader += more
                        self.assertIs(reader, kept)
                        row = [*row, *more]
                        self.holds(plain, reader, row)

    def added(self, reader, other):
        reader += other

    def test_no_series(self):
        for prime in PRIMES:
            for plain, reader, row in self.states(prime):
                room = 32 - len(row)
                wrong = [(each, -1) for each in no_sequences()]
                wrong += [([1] * (room + 1), -1), ([None] * (room + 1), -1), ([0] * (room + 1), -1)]
                if room > 3:
                    bad = refused_numbers(prime)
                    wrong += [([each, 1], 0) for each in bad] + [((1, 1, each, None), 2) for each in bad]
                    wrong += [([0, None], 1)]
                if not row:
                    wrong += [([0], 0), ((0, 1), 0), ([prime], 0), ([Ratio(0), 1], 0)]
                for other, place in wrong:
                    with self.subTest(prime=prime, row=row, other=other):
                        self.refused(NoSeries, place, self.added, reader, other)
                        self.holds(plain, reader, row)

    def test_0_behind_other_numbers(self):
        reader = reading(Plain(7), [1])
        reader += [0, 7]
        self.holds(Plain(7), reader, [1, 0, 0])

    def test_up_to_32(self):
        for prime in (0, 7):
            reader = Reader(Field(prime))
            reader += [1] * 32
            self.holds(Plain(prime), reader, [1] * 32)
            reader += []
            self.refused(NoSeries, -1, self.added, reader, [1])
            self.holds(Plain(prime), reader, [1] * 32)

    def test_its_own_numbers(self):
        reader = reading(Plain(7), [1, 2])
        reader += reader.numbers
        self.holds(Plain(7), reader, [1, 2, 1, 2])

    def test_in_a_function(self):
        reader = reading(Plain(7), [1, 2])
        self.added(reader, (3,))
        self.holds(Plain(7), reader, [1, 2, 3])


class AskedTest(ReaderCase):

    def test_series(self):
        for prime in PRIMES:
            for plain, reader, row in self.states(prime):
                if row:
                    self.is_series(plain, reader.series(), row)
                else:
                    self.refused(NoSeries, -1, reader.series)
                    self.refused(NoSeries, -1, reader.expected)
                    self.assertEqual(list(reader.opened()), [])

    def test_opened(self):
        for prime in PRIMES:
            plain = Plain(prime)
            for row in notable_rows(prime):
                for many in range(1, len(row) + 1):
                    found = reading(plain, row[:many]).opened()
                    self.assertTrue(inspect.isgenerator(found))
                    expected = [each for each in told_squares(plain, row[:many]) if not each[3]]
                    self.are_squares(plain, list(found), expected)

    def test_opened_in_the_order_of_squares(self):
        for prime in PRIMES:
            for plain, reader, row in self.states(prime):
                if row and (prime != 0 or len(row) < 32 or row[1] == 0):
                    expected = [each for each in squares(reader.series()) if not each.closed]
                    self.assertTrue(list(reader.opened()) == expected)
        self.assertTrue(inspect.isgeneratorfunction(Reader.opened))

    def test_expected(self):
        for prime in PRIMES:
            plain = Plain(prime)
            for row in notable_rows(prime):
                for many in range(1, len(row) + 1):
                    reader = reading(plain, row[:many])
                    self.number(plain, reader.expected(), plain.number(
                        going_on(simplest(series(plain, row[:many])), many)))
                    self.holds(plain, reader, row[:many])

    def test_expected_of_planted_fractions(self):
        for prime in PRIMES:
            chance = Chance(prime, "expected")
            top, bottom = chance.plain.lowest(chance.bottom(3), chance.bottom(2))
            row = chance.plain.expanded(top, bottom, 33)
            for many in (10, 20, 32):
                self.number(chance.plain, reading(chance.plain, row[:many]).expected(), row[many])
            self.number(chance.plain, reading(chance.plain, [1]).expected(), 0)
            self.number(chance.plain, reading(chance.plain, [1, 1, 1]).expected(), 1)

    def test_asking_changes_nothing(self):
        for prime in PRIMES:
            for plain, reader, row in self.states(prime):
                if row and (prime != 0 or len(row) < 32 or row[1] == 0):
                    first = reader.series(), reader.expected(), list(reader.opened())
                    again = reader.series(), reader.expected(), list(reader.opened())
                    self.assertTrue(first == again)
                    again[2].clear()
                    self.assertTrue(list(reader.opened()) == first[2])
                    self.holds(plain, reader, row)


class Stop(Exception):
    """An error that leaves a block."""


class TryingTest(ReaderCase):

    def changes(self):
        """Ways to change a reader."""
        return [lambda reader: reader.take(1), lambda reader: fill(reader, [1, 1, 1, 1]),
                lambda reader: fill(reader, []), lambda reader: None,
                lambda reader: reader.back() if len(reader) else None,
                lambda reader: PlusTest.added(self, reader, [1, 0])]

    def test_the_numbers_of_the_beginning(self):
        for prime in PRIMES:
            for plain, reader, row in self.states(prime):
                for change in self.changes():
                    try:
                        with reader.trying() as same:
                            self.assertIs(same, reader)
                            self.holds(plain, reader, row)
                            change(same)
                    except (Full, NoSeries):
                        pass
                    self.holds(plain, reader, row)

    def test_the_changes_hold_within_the_block(self):
        reader = reading(Plain(7), [1, 2])
        with reader.trying() as same:
            same.take(3)
            self.holds(Plain(7), reader, [1, 2, 3])
        self.holds(Plain(7), reader, [1, 2])

    def test_an_error_leaves_it(self):
        for prime in PRIMES:
            for plain, reader, row in self.states(prime):
                with self.assertRaises(Stop):
                    with reader.trying() as same:
                        fill(same, [1])
                        raise Stop
                self.holds(plain, reader, row)
                with self.assertRaises(NoNumber):
                    with reader.trying() as same:
                        fill(same, [1])
                        same.take(None)
                self.holds(plain, reader, row)

    def test_a_return_leaves_it(self):
        reader = reading(Plain(7), [1, 2])

        def left():
            with reader.trying() as same:
                same.take(5)
                return same.numbers

        self.assertEqual(left(), (1, 2, 5))
        self.holds(Plain(7), reader, [1, 2])

    def test_nested(self):
        reader = reading(Plain(7), [1, 2])
        with reader.trying() as outer:
            outer.take(3)
            with reader.trying() as inner:
                self.assertIs(inner, outer)
                inner.take(4)
                with inner.trying() as third:
                    fill(third, [])
                self.holds(Plain(7), reader, [1, 2, 3, 4])
            self.holds(Plain(7), reader, [1, 2, 3])
            with self.assertRaises(Stop):
                with reader.trying() as inner:
                    inner.back()
                    inner.back()
                    raise Stop
            self.holds(Plain(7), reader, [1, 2, 3])
            outer.take(6)
        self.holds(Plain(7), reader, [1, 2])

    def test_the_block_begins_where_it_stands(self):
        reader = reading(Plain(7), [1])
        block = reader.trying()
        reader.take(2)
        with block:
            reader.take(3)
        self.holds(Plain(7), reader, [1, 2])

    def test_two_readers(self):
        one, other = reading(Plain(7), [1]), reading(Plain(7), [2])
        with one.trying():
            with other.trying():
                one.take(5)
                other.take(6)
            self.holds(Plain(7), one, [1, 5])
            self.holds(Plain(7), other, [2])
            other.take(4)
        self.holds(Plain(7), one, [1])
        self.holds(Plain(7), other, [2, 4])


class ForetoldTest(ReaderCase):

    def test_what_take_returns(self):
        for prime in PRIMES:
            plain = Plain(prime)
            for row in notable_rows(prime):
                for cut in (0, 1, len(row) // 2):
                    reader, other = reading(plain, row[:cut]), reading(plain, row[:cut])
                    for kind in (list, tuple):
                        found = foretold(reader, kind(passed(row[cut:])))
                        self.assertIs(type(found), list)
                        self.holds(plain, reader, row[:cut])
                    self.assertTrue(found == [other.take(ratio(number)) for number in row[cut:]])
        self.assertEqual(foretold(numbers=[], reader=reader), [])

    def test_no_sequence(self):
        for prime in PRIMES:
            for plain, reader, row in self.states(prime):
                for wrong in no_sequences():
                    self.refused(NoSeries, -1, foretold, reader, wrong)
                self.holds(plain, reader, row)

    def test_the_first_number_that_is_refused(self):
        for prime in PRIMES:
            for plain, reader, row in self.states(prime):
                room = 32 - len(row)
                for wrong in refused_numbers(prime):
                    self.refused(NoNumber, None, foretold, reader, [wrong])
                    if room > 1:
                        self.refused(NoNumber, None, foretold, reader, [1, wrong, 0])
                if prime != 0 or len(row) == 32 or not row:
                    self.refused(Full, None, foretold, reader, [1, *[0] * room])
                if not row:
                    self.refused(NoSeries, 0, foretold, reader, [0, None])
                    self.refused(NoSeries, 0, foretold, reader, (prime, 1))
                self.holds(plain, reader, row)

    def test_the_numbers_passed_stay(self):
        numbers = [8, Ratio(1, 3)]
        foretold(Reader(Field(7)), numbers)
        self.assertTrue(numbers == [8, Ratio(1, 3)])


class ObjectTest(ReaderCase):

    def test_two_readers_do_not_disturb_each_other(self):
        one, other = Reader(Field(7)), Reader(field=Field(0))
        one.take(3)
        other.take(Ratio(1, 7))
        one += [1, 2]
        self.holds(Plain(7), one, [3, 1, 2])
        self.holds(Plain(0), other, [Plain(0).number(Ratio(1, 7))])
        self.assertEqual(one.back(), 2)
        self.assertEqual(len(other), 1)
        third = Reader(Field(7))
        self.holds(Plain(7), third, [])

    def test_what_is_kept_of_a_series(self):
        reader = reading(Plain(7), [1, 2])
        before = reader.series()
        reader.take(3)
        self.is_series(Plain(7), before, [1, 2])

    def test_the_class_and_the_functions_stand_in_their_module(self):
        self.listed(Reader, "seriessquares.reader", ["__init__", "__len__", "__iadd__", "MOST", "numbers", "take", "back",
                                                     "series", "opened", "expected", "trying"])
        self.assertIs(type(vars(Reader)["numbers"]), property)
        self.assertEqual(Series(Field(7), [1]).known, 1)
        for name in ("fill", "foretold"):
            self.assertEqual(getattr(reader_module, name).__module__, "seriessquares.reader")


if __name__ == "__main__":
    unittest.main()
