"""The table of fractions that fit a power series, and its squares."""
