"""Values of kinds that a test passes where a point names an error or asks whether something is so."""

from seriessquares.errors import NoRatio, SeriesError
from seriessquares.fields import Field
from seriessquares.ratios import Ratio


def no_integers():
    """Values that are no integers; some look like one."""
    return [
        True, False, None, "", "1", "0", "1/2", b"", b"1", [], [1], (), (1,), {}, {1: 1}, range(1), object(),
        int, len, Ratio, Ratio(1), Ratio(0), Field(), Field(7), SeriesError(), NoRatio("top"),
    ]


def no_numbers():
    """Values that are neither integers nor Ratios."""
    return [value for value in no_integers() if not isinstance(value, Ratio)]
