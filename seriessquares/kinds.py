"""Questions about the kind of a value."""


def is_an_integer(value):
    """Whether the value is an int; True and False are none here."""
    return isinstance(value, int) and not isinstance(value, bool)


def is_from_to(value, low, high):
    """Whether the value is an integer that is at least `low` and at most `high`."""
    return is_an_integer(value) and low <= value <= high


def are_digits(text, most):
    """Whether the text is one of decimal digits, at most `most` of them."""
    # isdigit alone would also take digits of other scripts.
    return len(text) <= most and text.isascii() and text.isdigit()


def is_a_sequence(value):
    """Whether the value is a list or a tuple."""
    return isinstance(value, (list, tuple))
