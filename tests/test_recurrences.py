"""Point [40]."""

import unittest
from itertools import product

import by_hand
from cases import Case, fraction, passed, ratio, series
from others import other_things, refused_numbers
from plain import PRIMES, Chance, Plain, notable_rows
from seriessquares import recurrences
from seriessquares.fields import Field
from seriessquares.ratios import Ratio
from seriessquares.recurrences import check_recurrence, length, outlook, profile, recurrence
from seriessquares.series import Series

SHORT = [(2, 7), (3, 5), (5, 4), (7, 3)]


def every_row(prime, known):
    """All rows of this length that do not begin with 0."""
    return [list(row) for row in product(range(prime), repeat=known) if row[0] != 0]


def by_trying(plain, row):
    """The least length, and all recurrences of this length, by trying all rows of numbers."""
    for many in range(1, len(row) + 1):
        found = [numbers for numbers in product(range(plain.prime), repeat=many)
                 if by_hand.is_recurrence(plain, row, numbers)]
        if found:
            return many, found


def long_rows(prime):
    """Series of up to 79 coefficients, of planted fractions and others."""
    chance = Chance(prime, "long recurrences")
    plain = chance.plain
    rows = [chance.series(20), [*chance.series(5), *[0] * 30], [1] + [0] * 78,
            plain.expanded(chance.bottom(3), chance.bottom(8), 30), plain.expanded(chance.bottom(9), chance.bottom(2), 40),
            [*plain.expanded(chance.bottom(2), chance.bottom(3), 25), 1, 1, 0]]
    if prime != 0:
        rows.append(chance.series(79))
    return [plain.row(row) for row in rows]


class LengthTest(Case):

    def holds(self, plain, row, many):
        """Fail unless this is the length, and the recurrence that is told has it and holds."""
        known = series(plain, row)
        self.assertIs(type(length(known)), int)
        self.assertEqual(length(known), many, (plain.prime, row))
        found = recurrence(known)
        self.assertIs(type(found), list)
        self.numbers(plain, tuple(found), found)
        self.assertEqual(len(found), many)
        self.assertTrue(by_hand.is_recurrence(plain, row, plain.row(found)))
        self.assertIs(check_recurrence(known, found), True)
        return plain.row(found)

    def test_against_all_rows_of_each_length(self):
        for prime, longest in SHORT:
            plain = Plain(prime)
            for known in range(1, longest + 1):
                for row in every_row(prime, known):
                    many, told = by_trying(plain, row)
                    self.assertIn(tuple(self.holds(plain, row, many)), told)
                    # There is only one exactly if 2 L <= known.
                    self.assertEqual(len(told) == 1, 2 * many <= known)

    def test_against_linear_equations(self):
        for prime in PRIMES:
            plain = Plain(prime)
            for row in notable_rows(prime):
                for known in range(1, len(row) + 1):
                    self.holds(plain, row[:known], by_hand.length(plain, row[:known]))

    def test_long_series(self):
        for prime in PRIMES:
            plain = Plain(prime)
            for row in long_rows(prime):
                many = len(self.holds(plain, row, length(series(plain, row))))
                # No shorter one, since a row of one number less does not solve the equations.
                if many > 1:
                    places = range(many - 1, len(row))
                    rows = [[row[k - j] for j in range(1, many)] for k in places]
                    self.assertIsNone(by_hand.solution(plain, rows, [row[k] for k in places]))

    def test_planted_recurrences(self):
        for prime in PRIMES:
            chance = Chance(prime, "planted recurrences")
            for many in (1, 2, 5, 16, 39):
                numbers = [*[chance.number() for _ in range(many - 1)], chance.nonzero()]
                row = chance.series(many)
                for _ in range(min(79, 2 * many + 1) - many):
                    row.append(chance.plain.number(sum(r * row[-j] for j, r in enumerate(numbers, 1))))
                known = series(chance.plain, row)
                self.assertLessEqual(length(known), many)
                self.holds(chance.plain, row, length(known))
                if length(known) == many:
                    self.assertEqual(chance.plain.row(recurrence(known)), numbers)

    def test_the_least_over_the_fractions_that_fit(self):
        for prime, known in [(2, 5), (3, 3), (5, 2)]:
            plain = Plain(prime)
            told = by_hand.all_fractions(plain, known - 1, known, known)
            for row in every_row(prime, known):
                many = min(max(len(top), len(bottom) - 1) for (top, bottom), numbers in told.items() if numbers == row)
                self.assertEqual(length(series(plain, row)), many)

    def test_zeros_at_the_end_of_a_recurrence(self):
        for prime in PRIMES:
            plain = Plain(prime)
            # The polynomial 1 + x needs two numbers, both 0.
            self.assertEqual(self.holds(plain, plain.row([1, 1, 0, 0, 0, 0]), 2), [0, 0])
            self.assertEqual(self.holds(plain, plain.row([1, 0, 0, 0]), 1), [0])
            self.assertEqual(self.holds(plain, plain.row([1, 0, 0, 1, 0, 0, 0, 0, 0]), 4), [0] * 4)
            self.assertEqual(self.holds(plain, plain.row([1, 2 if prime != 2 else 0, 1, 1, 1, 1, 1, 1]), 3), [1, 0, 0])

    def test_later_coefficients_that_are_0(self):
        for prime in PRIMES:
            plain = Plain(prime)
            for many in (1, 2, 5, 31, 77):
                self.assertEqual(length(series(plain, [1, *[0] * many])), 1)
                self.holds(plain, plain.row([1, *[0] * many, 1]), many + 1)

    def test_one_known_coefficient(self):
        for prime in PRIMES:
            self.holds(Plain(prime), Plain(prime).row([1]), 1)

    def test_the_example(self):
        known = Series(Field(), [1, 1, Ratio(1, 2), 0])
        self.assertEqual(length(known), 2)
        self.assertTrue(recurrence(known) == [Ratio(1), Ratio(-1, 2)])
        self.assertEqual(profile(known), [1, 1, 2, 2])
        self.assertTrue(outlook(known) == (2, 3, Ratio(-1, 4)))

    def test_long_numbers(self):
        for prime in (0, 9973):
            chance = Chance(prime, "digits")
            row = chance.plain.row([1, *[chance.long() for _ in range(6)]])
            self.holds(chance.plain, row, by_hand.length(chance.plain, row))

    def test_the_same_choice_each_time(self):
        for prime in (0, 5):
            known = Series(Field(prime), [1, 2, 4])
            self.assertTrue(recurrence(known) == recurrence(Series(Field(prime), (1, 2, 4))))

    def test_the_list_is_new(self):
        for call in (recurrence, profile):
            known = Series(Field(7), [1, 2, 3])
            found = call(known)
            kept = list(found)
            found.clear()
            self.assertEqual(call(series=known), kept)
            self.is_series(Plain(7), known, [1, 2, 3])


class CheckTest(Case):

    def test_every_row_of_numbers(self):
        for prime, known in [(2, 6), (3, 4), (5, 3)]:
            plain = Plain(prime)
            for row in every_row(prime, known):
                many, told = by_trying(plain, row)
                for candidate in product(range(prime), repeat=many):
                    for kind in (list, tuple):
                        self.assertIs(check_recurrence(series(plain, row), kind(candidate)), candidate in told)

    def test_more_and_fewer_numbers(self):
        for prime, known in [(2, 5), (3, 4)]:
            plain = Plain(prime)
            for row in every_row(prime, known):
                many = length(series(plain, row))
                for other in (many - 1, many + 1, many + 2):
                    for candidate in product(range(prime), repeat=other):
                        self.assertIs(check_recurrence(series(plain, row), candidate), False)
        self.assertIs(check_recurrence(Series(Field(7), [1, 2]), []), False)
        self.assertIs(check_recurrence(Series(Field(7), [1, 2]), [2]), True)
        self.assertIs(check_recurrence(Series(Field(7), [1, 2]), [2, 0]), False)

    def test_numbers_that_are_not_reduced(self):
        for prime in PRIMES[1:]:
            chance = Chance(prime, "not reduced")
            row = chance.plain.expanded(chance.bottom(2), chance.bottom(3), 12)
            known = series(chance.plain, row)
            found = recurrence(known)
            self.assertIs(check_recurrence(known, [each + prime for each in found]), True)
            self.assertIs(check_recurrence(known, [each - 3 * prime for each in found]), True)
            self.assertIs(check_recurrence(known, [Ratio(each * (prime + 1), prime + 1) for each in found]), True)
            self.assertIs(check_recurrence(known, [Ratio(each) for each in found]), True)
            self.assertIs(check_recurrence(known, [each + prime * 10 ** 30 for each in found]), True)
        third = Series(Field(7), [1, 5, 4])
        self.assertIs(check_recurrence(third, [Ratio(1, 3)]), True)
        self.assertIs(check_recurrence(third, [Ratio(1, 2)]), False)
        whole = Series(Field(), [1, 2, 4])
        self.assertIs(check_recurrence(whole, [2]), True)
        self.assertIs(check_recurrence(whole, [Ratio(4, 2)]), True)
        self.assertIs(check_recurrence(whole, [Ratio(5, 2)]), False)

    def test_one_number_changed(self):
        for prime in PRIMES:
            plain = Plain(prime)
            for row in long_rows(prime):
                known = series(plain, row)
                found = recurrence(known)
                # Only one recurrence exactly if 2 L <= known.
                for place in range(len(found)):
                    changed = plain.row(found)
                    changed[place] = plain.number(changed[place] + 1)
                    expected = by_hand.is_recurrence(plain, row, changed)
                    self.assertIs(check_recurrence(known, passed(changed)), expected)
                    if 2 * len(found) <= len(row):
                        self.assertIs(expected, False)

    def test_wrong_elements(self):
        for prime in PRIMES:
            plain = Plain(prime)
            row = plain.row([1, 0, 0, 1, 0, 0, 1, 0, 0])
            known = series(plain, row)
            self.assertIs(check_recurrence(known, [0, 0, 1]), True)
            for wrong in [*refused_numbers(prime), [1], "1", True, None]:
                for place in range(3):
                    candidate = [0, 0, 1]
                    candidate[place] = wrong
                    with self.subTest(prime=prime, wrong=wrong, place=place):
                        self.assertIs(check_recurrence(known, candidate), False)
                        self.assertIs(check_recurrence(known, tuple(candidate)), False)
            self.assertIs(check_recurrence(known, [False, False, True]), False)

    def test_things_of_every_kind(self):
        for prime in (0, 7):
            known = Series(Field(prime), [1, 1, 1])
            self.assertIs(check_recurrence(known, [1]), True)
            self.assertIs(check_recurrence(known, (1,)), True)
            for thing in other_things():
                # Of all of them only these are the recurrence.
                if isinstance(thing, (list, tuple)) and len(thing) == 1 and type(thing[0]) is int and thing[0] == 1:
                    continue
                with self.subTest(thing=thing):
                    self.assertIs(check_recurrence(known, thing), False)
            for thing in ["1", {0: 1}, {1}, range(1, 2), iter([1]), b"\x01", {1: 1}, 1, Ratio(1), recurrence]:
                self.assertIs(check_recurrence(known, thing), False)

    def test_nothing_is_changed(self):
        known = Series(Field(7), [1, 5, 4])
        candidate = [12]
        self.assertIs(check_recurrence(candidate=candidate, series=known), True)
        self.assertEqual(candidate, [12])


class ProfileTest(Case):

    def test_against_the_length_of_each_beginning(self):
        for prime in PRIMES:
            plain = Plain(prime)
            for row in [*notable_rows(prime), *long_rows(prime)]:
                known = series(plain, row)
                found = profile(known)
                self.assertIs(type(found), list)
                self.assertTrue(all(type(each) is int for each in found))
                beginnings = [*range(1, min(len(row), 12) + 1), min(len(row), 30)]
                self.assertEqual([found[many - 1] for many in beginnings],
                                 [by_hand.length(plain, row[:many]) for many in beginnings])
                self.assertEqual(found, [length(known.first(many)) for many in range(1, len(row) + 1)])

    def test_new_each_time(self):
        known = Series(Field(7), [1, 2, 3, 1])
        found = profile(known)
        found.append(5)
        self.assertEqual(profile(known), found[:-1])


class OutlookTest(Case):

    def holds(self, plain, row):
        """Fail unless the outlook has the right kinds and holds the facts; its last part is returned."""
        found = outlook(series(plain, row))
        self.assertIs(type(found), tuple)
        now, most, number = found
        self.assertEqual((type(now), type(most)), (int, int))
        self.assertEqual(now, length(series(plain, row)))
        self.assertEqual(most, max(now, len(row) + 1 - now))
        self.assertIs(number is None, 2 * now > len(row))
        if number is not None:
            self.number(plain, number)
        return now, most, number

    def test_against_all_continuations_by_one_number(self):
        for prime, longest in SHORT:
            plain = Plain(prime)
            for known in range(1, longest + 1):
                for row in every_row(prime, known):
                    now, most, number = self.holds(plain, row)
                    lengths = {last: by_trying(plain, [*row, last])[0] for last in range(prime)}
                    self.assertEqual(max(lengths.values()), most)
                    staying = [last for last in lengths if lengths[last] == now]
                    self.assertEqual(staying, list(range(prime)) if number is None else [number])
                    self.assertLessEqual(set(lengths.values()), {now, most})

    def test_against_the_length_of_continuations(self):
        for prime in PRIMES:
            chance = Chance(prime, "outlook")
            plain = chance.plain
            for row in [*notable_rows(prime), *long_rows(prime)]:
                if len(row) == 79:
                    row = row[:78]
                now, most, number = self.holds(plain, row)
                known = series(plain, row)
                lasts = [chance.number(), chance.number(), 0, 1]
                if number is not None:
                    lasts = [plain.number(number), *lasts]
                for last in lasts:
                    stays = number is None or plain.number(number) == plain.number(last)
                    self.assertEqual(length(known.then([ratio(last)])), now if stays else most)

    def test_79_coefficients(self):
        for prime in PRIMES:
            chance = Chance(prime, "79")
            plain = chance.plain
            top, bottom = plain.lowest(chance.bottom(3), chance.bottom(4))
            row = plain.expanded(top, bottom, 80)
            known = series(plain, row[:79])
            now, most, number = self.holds(plain, row[:79])
            self.assertEqual((now, most), (max(len(top), len(bottom) - 1), 80 - now))
            self.number(plain, number, row[79])
            self.assertTrue(fraction(plain, top, bottom).series(79) == known)

    def test_the_length_stays_with_every_value(self):
        for prime in PRIMES:
            plain = Plain(prime)
            self.assertEqual(self.holds(plain, plain.row([1])), (1, 1, None))
            self.assertEqual(self.holds(plain, plain.row([1, 0, 1])), (2, 2, None))
            self.assertEqual(self.holds(plain, plain.row([1, 0, 0, 0, 1])), (4, 4, None))

    def test_one_value(self):
        for prime in PRIMES:
            plain = Plain(prime)
            now, most, number = self.holds(plain, plain.row([1, 1]))
            self.assertEqual((now, most), (1, 2))
            self.number(plain, number, 1)
            now, most, number = self.holds(plain, plain.row([1, 0, 0, 0]))
            self.assertEqual((now, most), (1, 4))
            self.number(plain, number, 0)

    def test_names_of_the_parameters(self):
        self.assertEqual(outlook(series=Series(Field(7), [1, 3])), (1, 2, 2))
        self.assertEqual(length(series=Series(Field(7), [1, 3])), 1)


class ListedTest(unittest.TestCase):

    def test_the_functions_stand_in_their_module(self):
        for name in ("length", "recurrence", "check_recurrence", "profile", "outlook"):
            self.assertEqual(getattr(recurrences, name).__module__, "seriessquares.recurrences")


if __name__ == "__main__":
    unittest.main()
