"""Squares of the table."""


class Square:
    """The pairs with one cell, from the corner (m, n) on in `size` rows and columns."""

    def __init__(self, m, n, size, closed, fraction):
        self.m = m
        self.n = n
        self.size = size
        self.closed = closed
        self.fraction = fraction

    def __eq__(self, other):
        return (
            isinstance(other, Square) and self.m == other.m and self.n == other.n and self.size == other.size
            and self.closed == other.closed and self.fraction == other.fraction
        )

    def has(self, m, n):
        """Whether the pair (m, n) lies in the square."""
        return self.m <= m < self.m + self.size and self.n <= n < self.n + self.size
