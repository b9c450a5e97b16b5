"""Point [28], and what point [2] says of squares."""

import unittest

from cases import Case, fraction
from others import no_integers
from plain import Plain
from seriessquares.squares import Square


class SquareTest(Case):

    def test_fields(self):
        for closed in (True, False):
            cell = fraction(Plain(7), [1], [1, 1])
            for square in (Square(2, 5, 3, closed, cell),
                           Square(fraction=cell, closed=closed, size=3, n=5, m=2)):
                self.assertEqual((square.m, square.n, square.size), (2, 5, 3))
                self.assertIs(square.closed, closed)
                self.assertTrue(square.fraction == cell)

    def test_the_constructor_checks_nothing(self):
        square = Square(None, "n", -1, 5, 3)
        self.assertEqual((square.m, square.n, square.size, square.closed, square.fraction), (None, "n", -1, 5, 3))

    def test_has_at_each_edge_and_beyond_it(self):
        for m, n, size in [(0, 0, 1), (2, 5, 3), (5, 2, 1), (0, 3, 4)]:
            square = Square(m, n, size, True, fraction(Plain(0), [1], [1]))
            inside = [(row, column) for row in range(m, m + size) for column in range(n, n + size)]
            for row in range(-2, m + size + 3):
                for column in range(-2, n + size + 3):
                    self.assertIs(square.has(row, column), (row, column) in inside)
                    self.assertIs(square.has(n=column, m=row), (row, column) in inside)

    def test_has_far_away(self):
        square = Square(2, 5, 3, False, fraction(Plain(0), [1], [1]))
        for pair in [(10 ** 20, 5), (2, 10 ** 20), (-10 ** 20, 5), (2, -10 ** 20)]:
            self.assertIs(square.has(*pair), False)

    def test_equality_field_by_field(self):
        cell = fraction(Plain(7), [1], [1, 1])
        one = Square(2, 5, 3, True, cell)
        self.same(one, Square(2, 5, 3, True, fraction(Plain(7), [3, 3], [3, 6, 3])), True)
        for other in [Square(3, 5, 3, True, cell), Square(2, 4, 3, True, cell), Square(2, 5, 2, True, cell),
                      Square(2, 5, 3, False, cell), Square(2, 5, 3, True, fraction(Plain(7), [1], [1, 2])),
                      Square(2, 5, 3, True, fraction(Plain(5), [1], [1, 1])), Square(2, 5, 3, True, None),
                      Square(5, 2, 3, True, cell)]:
            self.same(one, other, False)

    def test_unequal_to_other_things(self):
        cell = fraction(Plain(7), [1], [1, 1])
        for other in [*no_integers(), 0, 1, cell, (2, 5, 3, True, cell), [2, 5, 3, True, cell]]:
            with self.subTest(other=other):
                self.same(Square(2, 5, 3, True, cell), other, False)

    def test_the_class_stands_in_its_module(self):
        self.listed(Square, "seriessquares.squares", ["__init__", "__eq__", "has"])


if __name__ == "__main__":
    unittest.main()
