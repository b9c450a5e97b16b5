"""Points [42] to [44]."""

import inspect
import unittest
from itertools import product

import by_hand
from cases import Case, fraction, poly, ratio
from others import no_integers, no_numbers, no_sequences, other_things, refused_numbers
from plain import PRIMES, Chance, Plain
from seriessquares import points as points_module
from seriessquares.errors import NoCell, NoNumber, NoPoints
from seriessquares.fields import Field
from seriessquares.points import Passage, check_passage, mended, through
from seriessquares.polys import Poly
from seriessquares.ratios import Ratio

NO_DEGREES = [-1, 30, 31, 40, -10 ** 20, 10 ** 20, "0", Ratio(1), *no_integers()]


def lowest_monic(plain, top, bottom):
    """Top and bottom without common divisors, with a monic bottom; nothing is nothing over 1."""
    common = plain.gcd(top, bottom)
    top, bottom = plain.divided(top, common)[0], plain.divided(bottom, common)[0]
    factor = [plain.inverse(bottom[-1])]
    return plain.times(top, factor), plain.times(bottom, factor)


def missed_by(plain, pair, points):
    """The places of the points that the pair of polynomials misses."""
    found = []
    for place, (x, y) in enumerate(points):
        below = plain.value(pair[1], x)
        if below == 0 or plain.value(pair[0], x) != plain.number(y * below):
            found.append(place)
    return tuple(found)


def by_equations(plain, points, m, n):
    """The pair in lowest terms from the linear equations for its coefficients."""
    rows = [[*[x ** k for k in range(m + 1)], *[-y * x ** k for k in range(n + 1)]] for x, y in points]
    found = by_hand.null_vector(plain, rows, m + n + 2)
    return lowest_monic(plain, plain.trim(found[:m + 1]), plain.trim(found[m + 1:]))


def given(points):
    """Points as they are passed to the package."""
    return [(ratio(x), ratio(y)) for x, y in points]


def xs(chance, many):
    """Unlike numbers, if the field has as many."""
    found = []
    while len(found) < many:
        x = chance.number()
        if x not in found:
            found.append(x)
    return found


def most_points(prime, many):
    return many if prime == 0 else min(prime, many)


def lowest_pairs(plain, top, bottom):
    """All pairs in lowest terms with a monic bottom within these degrees, modulo a small prime."""
    pairs = set()
    for low in product(range(plain.prime), repeat=top + 1):
        for degree in range(bottom + 1):
            for below in product(range(plain.prime), repeat=degree):
                if len(plain.gcd(list(low), [*below, 1])) == 1:
                    pairs.add((tuple(plain.trim(low)), (*below, 1)))
    return pairs


class PointsCase(Case):

    def is_passage(self, plain, found, pair, missed):
        """Fail unless `found` is the Passage of these polynomials and places."""
        self.assertIs(type(found), Passage)
        self.is_poly(plain, found.top, pair[0])
        self.is_poly(plain, found.bottom, pair[1])
        self.assertIs(type(found.missed), tuple)
        self.assertTrue(all(type(place) is int for place in found.missed))
        self.assertEqual(found.missed, missed)

    def in_bounds(self, plain, points, m, n, found):
        """Fail unless the bounds of the fact hold and the pair is in lowest terms with a monic bottom."""
        a, b, u = found.top.degree, found.bottom.degree, len(found.missed)
        if a >= 0:
            self.assertTrue(u <= m - a and u <= n - b)
        else:
            self.assertLessEqual(u, n)
            self.assertEqual(b, 0)
        self.assertEqual(plain.number(found.bottom.coefficients[-1]), 1)
        pair = plain.row(found.top.coefficients), plain.row(found.bottom.coefficients)
        self.assertEqual(len(plain.gcd(*pair)), 1)
        self.assertEqual(found.missed, missed_by(plain, pair, points))

    def goes(self, plain, points, m, n):
        """Fail unless `through` is as the equations tell; what it returns is returned."""
        found = through(plain.field, given(points), m, n)
        pair = by_equations(plain, points, m, n)
        self.is_passage(plain, found, pair, missed_by(plain, pair, points))
        self.in_bounds(plain, points, m, n, found)
        self.assertIs(check_passage(plain.field, given(points), m, n, found), True)
        return found


class PassageTest(PointsCase):

    def test_fields(self):
        top, bottom = Poly(Field(7), [1, 2]), Poly(Field(7), [3, 1])
        for passage in (Passage(top, bottom, (1, 4)), Passage(missed=(1, 4), bottom=bottom, top=top)):
            self.assertTrue(passage.top == top)
            self.assertTrue(passage.bottom == bottom)
            self.assertEqual(passage.missed, (1, 4))

    def test_a_list_is_kept_as_a_tuple(self):
        top, bottom = Poly(Field(7), [1, 2]), Poly(Field(7), [3, 1])
        missed = [1, 4]
        passage = Passage(top, bottom, missed)
        missed.append(5)
        self.assertEqual(passage.missed, (1, 4))
        self.assertIs(type(passage.missed), tuple)
        self.same(passage, Passage(top, bottom, (1, 4)), True)
        self.assertEqual(Passage(top, bottom, []).missed, ())

    def test_it_keeps_what_it_is_given(self):
        passage = Passage(None, "bottom", 5)
        self.assertEqual((passage.top, passage.bottom, passage.missed), (None, "bottom", 5))
        self.assertEqual(Passage(1, 2, None).missed, None)
        self.assertEqual(Passage(1, 2, "ab").missed, "ab")

    def test_equality(self):
        top, bottom = Poly(Field(7), [1, 2]), Poly(Field(7), [3, 1])
        passage = Passage(top, bottom, (1, 4))
        self.same(passage, Passage(Poly(Field(7), [8, 2]), Poly(Field(7), [3, 1, 0]), [1, 4]), True)
        for other in [Passage(bottom, bottom, (1, 4)), Passage(top, top, (1, 4)), Passage(top, bottom, (1,)),
                      Passage(top, bottom, (4, 1)), Passage(top, bottom, ()), Passage(top, bottom, None),
                      Passage(Poly(Field(5), [1, 2]), Poly(Field(5), [3, 1]), (1, 4)), Passage(bottom, top, (1, 4)),
                      *other_things(), (top, bottom, (1, 4)), [top, bottom, (1, 4)], fraction(Plain(7), [1, 2], [3, 1])]:
            self.same(passage, other, False)

    def test_at(self):
        for prime in PRIMES:
            chance = Chance(prime, "at")
            plain = chance.plain
            for _ in range(5):
                top, bottom = chance.poly(3), [*chance.poly(1), 1]
                passage = Passage(poly(plain, top), poly(plain, bottom), ())
                for x in [0, 1, 2, chance.number(), chance.number()]:
                    below = plain.value(bottom, x)
                    if below == 0:
                        self.assertIsNone(passage.at(ratio(x)))
                    else:
                        value = plain.value(top, x) * plain.inverse(below)
                        self.number(plain, passage.at(ratio(x)), value)
                        self.number(plain, passage.at(number=ratio(x)), value)

    def test_at_a_zero_of_the_bottom(self):
        for prime in PRIMES:
            field = Field(prime)
            passage = Passage(Poly(field, [1]), Poly(field, [-1, 1]), ())
            self.assertIsNone(passage.at(1))
            self.assertIsNone(passage.at(Ratio(1)))
            self.assertIsNone(passage.at(prime + 1))
            self.number(Plain(prime), passage.at(0), -1)
            # The top is 0 there, too.
            self.assertIsNone(Passage(Poly(field, [-1, 1]), Poly(field, [-1, 1]), ()).at(1))

    def test_at_where_the_value_is_0(self):
        for prime in PRIMES:
            field = Field(prime)
            self.number(Plain(prime), Passage(Poly(field, []), Poly(field, [1]), ()).at(3), 0)
            self.number(Plain(prime), Passage(Poly(field, [-1, 1]), Poly(field, [1]), ()).at(1), 0)

    def test_at_takes_numbers_of_the_field(self):
        passage = Passage(Poly(Field(7), [1, 2]), Poly(Field(7), [3, 1]), ())
        self.assertEqual(passage.at(9), passage.at(2))
        self.assertEqual(passage.at(Ratio(1, 3)), passage.at(5))
        self.assertIsNone(passage.at(-3))

    def test_no_number(self):
        for prime in PRIMES:
            for bottom in ([1], [0, 1]):
                for top in ([1], []):
                    passage = Passage(Poly(Field(prime), top), Poly(Field(prime), bottom), ())
                    for wrong in refused_numbers(prime):
                        self.refused(NoNumber, None, passage.at, wrong)


class ThroughTest(PointsCase):

    def test_against_linear_equations(self):
        for prime in PRIMES:
            chance = Chance(prime, "through")
            for many in range(1, most_points(prime, 7) + 1):
                for m in range(many):
                    for _ in range(2):
                        points = [(x, chance.number()) for x in xs(chance, many)]
                        self.goes(chance.plain, points, m, many - 1 - m)

    def test_all_values_for_small_primes(self):
        for prime, many in [(2, 1), (2, 2), (3, 3), (5, 3)]:
            plain = Plain(prime)
            for ys in product(range(prime), repeat=many):
                for m in range(many):
                    self.goes(plain, list(zip(reversed(range(many)), ys)), m, many - 1 - m)

    def test_a_fraction_goes_through_all_exactly_if_nothing_is_missed(self):
        for prime, many in [(3, 3), (5, 3)]:
            plain = Plain(prime)
            for m in range(many):
                n = many - 1 - m
                pairs = lowest_pairs(plain, m, n)
                for ys in product(range(prime), repeat=many):
                    points = list(enumerate(ys))
                    fits = [pair for pair in pairs if missed_by(plain, pair, points) == ()]
                    found = through(plain.field, points, m, n)
                    self.assertEqual(len(fits), 1 if found.missed == () else 0)
                    if fits:
                        self.is_passage(plain, found, fits[0], ())

    def test_only_one_pair_keeps_the_bounds(self):
        for prime, many in [(2, 2), (3, 3), (5, 2)]:
            plain = Plain(prime)
            for m in range(many):
                n = many - 1 - m
                pairs = lowest_pairs(plain, m, n)
                for ys in product(range(prime), repeat=many):
                    points = list(enumerate(ys))
                    kept = []
                    for top, bottom in pairs:
                        missed = missed_by(plain, (top, bottom), points)
                        slack = min(m - len(top) + 1, n - len(bottom) + 1) if top else n
                        if len(missed) <= slack and (top or bottom == (1,)):
                            kept.append((top, bottom, missed))
                    self.assertEqual(len(kept), 1)
                    self.is_passage(plain, through(plain.field, points, m, n), kept[0][:2], kept[0][2])

    def test_planted_fractions(self):
        for prime in (0, 101, 9973):
            chance = Chance(prime, "planted")
            plain = chance.plain
            for a, b, spare in [(0, 0, 0), (2, 1, 0), (1, 2, 1), (3, 2, 2), (0, 3, 2), (3, 0, 4), (2, 2, 5)]:
                top, bottom = lowest_monic(plain, chance.bottom(a), chance.bottom(b))
                m, n = len(top) - 1 + spare, len(bottom) - 1 + spare
                places = [x for x in xs(chance, 2 * (m + n + 6)) if plain.value(bottom, x) != 0][:m + n + 1]
                points = [(x, plain.number(plain.value(top, x) * plain.inverse(plain.value(bottom, x)))) for x in places]
                self.is_passage(plain, self.goes(plain, points, m, n), (top, bottom), ())
                wrong = sorted(chance.random.sample(range(len(points)), spare))
                for place in wrong:
                    points[place] = points[place][0], plain.number(points[place][1] + 1)
                self.is_passage(plain, self.goes(plain, points, m, n), (top, bottom), tuple(wrong))

    def test_a_pole_at_a_point(self):
        for prime in (0, 7, 9973):
            plain = Plain(prime)
            # 1 / x misses the point with x = 0, whatever its value is.
            for y in (0, 1, 5):
                points = [(0, y), (1, 1), (2, plain.inverse(2)), (3, plain.inverse(3))]
                found = self.goes(plain, points, 1, 2)
                self.is_passage(plain, found, ([1], [0, 1]), (0,))

    def test_the_top_that_is_nothing(self):
        for prime in PRIMES:
            plain = Plain(prime)
            many = most_points(prime, 5)
            for n in range(many):
                m = many - 1 - n
                zeros = [(x, 0) for x in range(many)]
                self.is_passage(plain, self.goes(plain, zeros, m, n), ([], [1]), ())
                for wrong in range(n + 1):
                    points = [(x, 1 if x < wrong else 0) for x in range(many)]
                    self.is_passage(plain, self.goes(plain, points, m, n), ([], [1]), tuple(range(wrong)))

    def test_all_degrees_of_30_points(self):
        for prime in (0, 31, 9973):
            chance = Chance(prime, "30")
            plain = chance.plain
            top, bottom = lowest_monic(plain, chance.bottom(3), chance.bottom(2))
            places = [x for x in (range(40) if prime != 31 else range(31)) if plain.value(bottom, x) != 0][:30]
            good = [(x, plain.number(plain.value(top, x) * plain.inverse(plain.value(bottom, x)))) for x in places]
            if len(good) == 30:
                good[4] = good[4][0], plain.number(good[4][1] + 1)
            others = [(x, chance.number()) for x in range(30)]
            for m in range(30):
                n = 29 - m
                for points in (good, others):
                    if len(points) == 30:
                        found = through(plain.field, given(points), m, n)
                        self.in_bounds(plain, points, m, n, found)
                if m >= len(top) and n >= len(bottom) and len(good) == 30:
                    self.is_passage(plain, through(plain.field, given(good), m, n), (top, bottom), (4,))

    def test_the_example(self):
        found = through(Field(), [(0, 1), (1, 1), (2, 3)], 1, 1)
        self.is_passage(Plain(0), found, ([1], [1]), (2,))

    def test_lists_and_tuples(self):
        expected = through(Field(7), [(0, 1), (1, 1), (2, 3)], 1, 1)
        for points in ([[0, 1], [1, 1], [2, 3]], ((0, 1), (1, 1), (2, 3)), ([0, 1], (1, 1), [2, 3])):
            self.assertTrue(through(Field(7), points, 1, 1) == expected)

    def test_numbers_that_are_not_reduced(self):
        expected = through(Field(7), [(0, 1), (1, 1), (2, 3)], 1, 1)
        self.assertTrue(through(Field(7), [(7, 8), (Ratio(8, 15), -6), (-5, Ratio(3))], 1, 1) == expected)
        whole = through(Field(), [(0, Ratio(1)), (Ratio(2, 2), 1), (2, 3)], 1, 1)
        self.is_passage(Plain(0), whole, ([1], [1]), (2,))

    def test_long_numbers(self):
        for prime in (0, 9973):
            chance = Chance(prime, "digits")
            points = [(chance.long(), chance.long()) for _ in range(4)]
            plain = chance.plain
            for m in range(4):
                found = through(plain.field, given(points), m, 3 - m)
                row = [(plain.number(x), plain.number(y)) for x, y in points]
                pair = by_equations(plain, row, m, 3 - m)
                self.is_passage(plain, found, pair, missed_by(plain, pair, row))

    def test_the_points_stay_as_they_are(self):
        points = [[0, 8], [1, 1], [Ratio(2), 3]]
        found = through(n=1, m=1, points=points, field=Field(7))
        self.assertEqual(points, [[0, 8], [1, 1], [Ratio(2), 3]])
        self.assertIs(type(points[2][0]), Ratio)
        points[0][1] = 5
        points.clear()
        self.is_passage(Plain(7), found, ([1], [1]), (2,))


CALLS = [
    lambda points, m=1, n=1: through(Field(7), points, m, n),
    lambda points, m=1, n=1: check_passage(Field(7), points, m, n, None),
    lambda points, m=1, n=1: mended(Field(7), points, top=m, bottom=n),
]


class RefusedTest(PointsCase):

    def test_no_points(self):
        many = [(x, 0) for x in range(31)]
        for call in CALLS:
            for points in [*no_sequences(), "ab", {(0, 1)}, Poly(Field(7), [1]), [], (), many, [None] * 31]:
                for m, n in [(1, 1), (None, 1), (40, -1), (1, True)]:
                    self.refused(NoPoints, -1, call, points, m, n)

    def test_30_points_are_let_and_31_are_not(self):
        field = Field(101)
        points = [(x, x) for x in range(31)]
        self.is_passage(Plain(101), through(field, points[:30], 15, 14), ([0, 1], [1]), ())
        self.is_passage(Plain(101), mended(field, points[:30], top=15, bottom=14), ([0, 1], [1]), ())
        self.refused(NoPoints, -1, through, field, points, 15, 15)
        self.refused(NoPoints, -1, through, field, points, 16, 14)
        self.refused(NoPoints, -1, mended, field, points, top=1, bottom=1)

    def test_the_first_wrong_point(self):
        wrong = [*no_sequences(), [], (), [1], (1,), (4, 1, 1), [4, 1, 1], "41", {4: 1}, Passage(1, 2, 3),
                 *[(4, each) for each in refused_numbers(7)], *[[each, 4] for each in refused_numbers(7)]]
        for call in CALLS:
            for place in range(3):
                for each in wrong:
                    points = [(0, 1), (1, 1), (2, 3), (3, 1)]
                    points[place] = each
                    points[3] = None
                    with self.subTest(place=place, wrong=each):
                        self.refused(NoPoints, place, call, points, 1, 1)
                        self.refused(NoPoints, place, call, tuple(points), 1, 1)
                        self.refused(NoPoints, place, call, points, None, 40)
        for each in no_numbers():
            self.refused(NoPoints, 1, through, Field(), [(0, 1), (each, 1)], 1, 0)
            self.refused(NoPoints, 1, through, Field(), [(0, 1), (1, each)], 1, 0)

    def test_an_x_that_an_earlier_point_has(self):
        for call in CALLS:
            for x in (1, 8, -6, Ratio(1), Ratio(8, 15), Ratio(2, 16)):
                self.refused(NoPoints, 2, call, [(0, 1), (1, 1), (x, 3), (1, 1)], 1, 1)
                self.refused(NoPoints, 3, call, [(0, 1), (1, 1), (2, 3), (x, 1)], 1, 1)
            # Equal values are no matter.
            call([(0, 1), (1, 1), (2, 1)], 1, 1)
        self.refused(NoPoints, 1, through, Field(), [(Ratio(1, 2), 1), (Ratio(2, 4), 1)], 1, 0)
        self.refused(NoPoints, 1, through, Field(), [(1, 1), (Ratio(1), 2)], 1, 0)
        through(Field(), [(1, 1), (8, 1)], 1, 0)

    def test_the_x_comes_before_a_later_wrong_point_and_a_wrong_value_before_it(self):
        for call in CALLS:
            self.refused(NoPoints, 1, call, [(1, 1), (1, 1), None], 1, 1)
            self.refused(NoPoints, 1, call, [(1, 1), (2, None), (1, 1)], 1, 1)

    def test_degrees_that_are_wrong(self):
        points = [(0, 1), (1, 1), (2, 3)]
        for wrong in NO_DEGREES:
            for call in CALLS[:2]:
                with self.subTest(wrong=wrong):
                    self.refused(NoCell, "m", call, points, wrong, 1)
                    self.refused(NoCell, "n", call, points, 1, wrong)
                    self.refused(NoCell, "m", call, points, wrong, wrong)
                    self.refused(NoCell, "n", call, points, 29, wrong)
            self.refused(NoCell, "top", CALLS[2], points, wrong, 1)
            self.refused(NoCell, "bottom", CALLS[2], points, 1, wrong)
            self.refused(NoCell, "top", CALLS[2], points, wrong, wrong)
            self.refused(NoCell, "bottom", CALLS[2], points, 29, wrong)

    def test_a_wrong_sum(self):
        for many in range(1, 8):
            points = [(x, 1) for x in range(many)]
            for m, n in [*product(range(8), repeat=2), (29, 29), (0, 29), (29, 0)]:
                for call in CALLS[:2]:
                    if m + n + 1 != many:
                        self.refused(NoCell, "sum", call, points, m, n)
                if m + n + 1 > many:
                    self.refused(NoCell, "sum", CALLS[2], points, m, n)
                else:
                    self.is_passage(Plain(7), CALLS[2](points, m, n), ([1], [1]), ())

    def test_what_is_passed_by_name_alone(self):
        with self.assertRaises(TypeError):
            mended(Field(7), [(0, 1), (1, 1)], 1, 0)
        kinds = [each.kind for each in inspect.signature(mended).parameters.values()]
        self.assertEqual(kinds[2:], [inspect.Parameter.KEYWORD_ONLY] * 2)


class CheckTest(PointsCase):

    def test_each_field_changed(self):
        for prime in PRIMES:
            plain = Plain(prime)
            field = plain.field
            points = [(0, 1), (1, 0)] if prime == 2 else [(0, 1), (1, 1), (2, 0)]
            m, n = len(points) - 2, 1
            found = through(field, points, m, n)
            self.assertIs(check_passage(field, points, m, n, Passage(found.top, found.bottom, found.missed)), True)
            self.assertIs(check_passage(field, points, m, n, Passage(found.top, found.bottom, list(found.missed))), True)
            other = Field(5 if prime != 5 else 3)
            for changed in [Passage(found.top + 1, found.bottom, found.missed),
                            Passage(found.top, found.bottom + 1, found.missed),
                            Passage(found.top * Poly(field, [0, 1]), found.bottom * Poly(field, [0, 1]), found.missed),
                            Passage(found.top, found.bottom, (*found.missed, 0)),
                            Passage(found.top, found.bottom, (*found.missed, 5)),
                            Passage(Poly(other, [1]), Poly(other, [1]), found.missed),
                            Passage(None, found.bottom, found.missed), Passage(found.top, None, found.missed),
                            Passage(found.top.coefficients, found.bottom, found.missed)]:
                self.assertIs(check_passage(field, points, m, n, changed), False)

    def test_the_kind_of_missed(self):
        # The places 0 and 1 are missed by the fraction 1.
        points = [(0, 2), (1, 3), (2, 1), (3, 1), (4, 1)]
        found = through(Field(7), points, 2, 2)
        self.assertEqual(found.missed, (0, 1))
        self.is_passage(Plain(7), found, ([1], [1]), (0, 1))
        top, bottom = found.top, found.bottom
        for missed, expected in [((0, 1), True), ([0, 1], True), ((False, 1), False), ((0, True), False),
                                 ((False, True), False), ((Ratio(0), 1), False), ((0, Ratio(1)), False),
                                 ((1, 0), False), ((0,), False), ((1,), False), ((), False), ((0, 1, 1), False),
                                 ((0, None), False), ((0, "1"), False), (("0", "1"), False), ("01", False),
                                 ({0: 0, 1: 1}, False), (range(2), False), (b"\x00\x01", False), (None, False),
                                 (1, False), ({0, 1}, False), (((0, 1),), False), ((0, [1]), False)]:
            with self.subTest(missed=missed):
                candidate = Passage(top, bottom, missed)
                self.assertIs(check_passage(Field(7), points, 2, 2, candidate), expected)
        for thing in other_things():
            if thing != [] and thing != () or not isinstance(thing, (list, tuple)):
                self.assertIs(check_passage(Field(7), points, 2, 2, Passage(top, bottom, thing)), False)
            self.assertIs(check_passage(Field(7), points, 2, 2, Passage(thing, thing, thing)), False)
            self.assertIs(check_passage(Field(7), points, 2, 2, Passage(top, bottom, (0, thing))),
                          type(thing) is int and thing == 1)

    def test_nothing_is_missed(self):
        points = [(0, 1), (1, 1)]
        one = Poly(Field(7), [1])
        for missed, expected in [((), True), ([], True), ((0,), False), (None, False), ("", False), ({}, False)]:
            self.assertIs(check_passage(Field(7), points, 1, 0, Passage(one, one, missed)), expected)

    def test_things_of_every_kind(self):
        points = [(0, 1), (1, 1), (2, 3)]
        for field in (Field(), Field(7)):
            for thing in [*other_things(), through, Passage, Passage(None, None, None), points,
                          (Poly(field, [1]), Poly(field, [1]), (2,))]:
                self.assertIs(check_passage(field, points, 1, 1, thing), False)

    def test_names_of_the_parameters(self):
        points = [(0, 1), (1, 1), (2, 3)]
        found = through(Field(7), points, 1, 1)
        self.assertIs(check_passage(candidate=found, n=1, m=1, points=points, field=Field(7)), True)


class MendedTest(PointsCase):

    def test_against_all_pairs_for_small_primes(self):
        for prime, many, top, bottom in [(2, 2, 0, 0), (2, 2, 1, 0), (3, 3, 0, 0), (3, 3, 1, 0), (3, 3, 0, 1), (3, 3, 1, 1),
                                         (5, 4, 0, 0), (5, 4, 1, 0), (5, 4, 0, 1), (5, 3, 1, 1), (5, 5, 0, 0)]:
            plain = Plain(prime)
            pairs = lowest_pairs(plain, top, bottom)
            most = (many - (top + bottom + 1)) // 2
            for ys in product(range(prime), repeat=many):
                points = list(enumerate(ys))
                told = [(pair, missed_by(plain, pair, points)) for pair in pairs]
                fits = [(pair, missed) for pair, missed in told if len(missed) <= most]
                self.assertLessEqual(len(fits), 1)
                found = mended(plain.field, points, top=top, bottom=bottom)
                if fits:
                    self.is_passage(plain, found, *fits[0])
                else:
                    self.assertIsNone(found)

    def test_planted_fractions_with_as_many_wrong_values_as_can_be_found(self):
        for prime in (0, 101, 9973):
            chance = Chance(prime, "mended")
            plain = chance.plain
            for a, b, top, bottom, many in [(0, 0, 0, 0, 9), (2, 1, 2, 1, 12), (2, 1, 3, 2, 13), (1, 2, 1, 2, 20),
                                            (3, 0, 3, 0, 14), (0, 3, 1, 3, 15), (4, 4, 4, 4, 30), (2, 2, 5, 4, 29)]:
                pair = lowest_monic(plain, chance.bottom(a), chance.bottom(b))
                places = [x for x in xs(chance, many + 8) if plain.value(pair[1], x) != 0][:many]
                good = [(x, plain.number(plain.value(pair[0], x) * plain.inverse(plain.value(pair[1], x))))
                        for x in places]
                most = (many - (top + bottom + 1)) // 2
                for wrong in sorted({0, 1, most - 1, most}):
                    points = list(good)
                    missed = tuple(sorted(chance.random.sample(range(many), wrong)))
                    for place in missed:
                        points[place] = points[place][0], plain.number(points[place][1] + chance.nonzero())
                    found = mended(plain.field, given(points), top=top, bottom=bottom)
                    self.is_passage(plain, found, pair, missed)

    def test_one_wrong_value_too_many(self):
        for prime in (0, 101):
            field = Field(prime)
            # x + 1 with e = 2, and three wrong values that belong to no other line.
            points = [(x, x + 1) for x in range(6)]
            for place, y in [(0, 50), (2, 71), (5, 33)]:
                points[place] = (place, y)
            self.assertIsNone(mended(field, points, top=1, bottom=0))
            points[5] = (5, 6)
            self.is_passage(Plain(prime), mended(field, points, top=1, bottom=0), ([1, 1], [1]), (0, 2))

    def test_the_top_that_is_nothing(self):
        for prime in (0, 7, 101):
            plain = Plain(prime)
            points = [(x, 0) for x in range(7)]
            self.is_passage(plain, mended(plain.field, points, top=2, bottom=1), ([], [1]), ())
            points[3] = (3, 5)
            self.is_passage(plain, mended(plain.field, points, top=2, bottom=1), ([], [1]), (3,))
            points[5] = (5, 1)
            self.assertIsNone(mended(plain.field, points, top=2, bottom=1))
            self.is_passage(plain, mended(plain.field, points, top=0, bottom=0), ([], [1]), (3, 5))

    def test_a_pole_counts_as_missed(self):
        for prime in (0, 101):
            plain = Plain(prime)
            points = [(x, plain.inverse(x)) for x in range(1, 5)]
            points = [(0, 7), *points]
            found = mended(plain.field, given(points), top=0, bottom=1)
            self.is_passage(plain, found, ([1], [0, 1]), (0,))

    def test_no_spare_point(self):
        for prime in (0, 101):
            chance = Chance(prime, "no spare")
            plain = chance.plain
            for many in (1, 2, 5, 6):
                points = [(x, chance.number()) for x in xs(chance, many)]
                for top in range(many):
                    bottom = many - 1 - top
                    found = through(plain.field, given(points), top, bottom)
                    got = mended(plain.field, given(points), top=top, bottom=bottom)
                    if found.missed == ():
                        self.assertTrue(got == found)
                    else:
                        self.assertIsNone(got)

    def test_the_example(self):
        points = [(0, 1), (1, 2), (2, 5), (3, 4)]
        for found in (mended(Field(), points, top=1, bottom=0), mended(Field(), points, bottom=0, top=1),
                      mended(bottom=0, top=1, points=points, field=Field())):
            self.is_passage(Plain(0), found, ([1, 1], [1]), (2,))
        self.assertEqual(points, [(0, 1), (1, 2), (2, 5), (3, 4)])

    def test_e_is_rounded_down(self):
        # Four points and degrees of sum 0 leave 3 spare ones, so one wrong value.
        self.is_passage(Plain(0), mended(Field(), [(0, 5), (1, 5), (2, 5), (3, 4)], top=0, bottom=0), ([5], [1]), (3,))
        self.assertIsNone(mended(Field(), [(0, 5), (1, 5), (2, 6), (3, 4)], top=0, bottom=0))

    def test_the_greatest_degrees(self):
        points = [(x, x) for x in range(30)]
        self.is_passage(Plain(0), mended(Field(), points, top=29, bottom=0), ([0, 1], [1]), ())
        self.is_passage(Plain(101), mended(Field(101), points, top=1, bottom=28), ([0, 1], [1]), ())
        self.is_passage(Plain(101), mended(Field(101), [(x, 0) for x in range(30)], top=0, bottom=29), ([], [1]), ())


class ListedTest(Case):

    def test_the_class_and_the_functions_stand_in_their_module(self):
        self.listed(Passage, "seriessquares.points", ["__init__", "__eq__", "at"])
        for name in ("through", "check_passage", "mended"):
            self.assertEqual(getattr(points_module, name).__module__, "seriessquares.points")


if __name__ == "__main__":
    unittest.main()
