"""What the package has worked out itself, marked so that a constructor takes it without a check."""


class Ready:
    """Numbers of a field. A Poly or a Series keeps them however many they are."""

    def __init__(self, row):
        self.row = tuple(row)


class Settled:
    """A bottom that is 1 at 0 and has no divisor in common with its top."""

    def __init__(self, poly):
        self.poly = poly
