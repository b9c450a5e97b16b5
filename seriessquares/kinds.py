"""Questions about the kind of a value."""


def is_an_integer(value):
    """Whether the value is an int; True and False are none here."""
    return isinstance(value, int) and not isinstance(value, bool)
