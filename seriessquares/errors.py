"""The errors of the package. Each tells a desk what to answer."""


class SeriesError(ValueError):
    """What every error of the package derives from."""

    def told(self):
        return "refused serieserror"


class NoRatio(SeriesError):
    """No ratio; `word` names what is wrong with it."""

    def __init__(self, word):
        self.word = word

    def told(self):
        return "refused noratio"


class NoField(SeriesError):
    """No field has this prime."""

    def told(self):
        return "refused nofield"


class NoNumber(SeriesError):
    """The value stands for no number, or none that is fit for what is asked."""

    def told(self):
        return "refused nonumber"


class NoPoly(SeriesError):
    """No polynomial; `place` is that of the first bad coefficient, or -1."""

    def __init__(self, place):
        self.place = place

    def told(self):
        return "refused nopoly"


class OtherField(SeriesError):
    """The objects have different fields."""

    def told(self):
        return "refused otherfield"


class NoSeries(SeriesError):
    """No series; `place` is that of the first bad coefficient, or -1."""

    def __init__(self, place):
        self.place = place

    def told(self):
        return "refused noseries"


class NoCount(SeriesError):
    """The value is no count, index or total of the range that is asked for."""

    def told(self):
        return "refused nocount"


class NoFraction(SeriesError):
    """No fraction; `word` names what is wrong with it."""

    def __init__(self, word):
        self.word = word

    def told(self):
        return "refused nofraction"


class NoCell(SeriesError):
    """No cell has this place; `word` names the bad argument."""

    def __init__(self, word):
        self.word = word

    def told(self):
        return "refused nocell"


class NotKnown(SeriesError):
    """The `known` coefficients of the series do not settle the answer."""

    def __init__(self, known):
        self.known = known

    def told(self):
        return "refused notknown"


class NoQuotients(SeriesError):
    """No row of quotients; `place` is that of the first bad one, or -1."""

    def __init__(self, place):
        self.place = place

    def told(self):
        return "refused noquotients"


class NoPoints(SeriesError):
    """No row of points; `place` is that of the first bad one, or -1."""

    def __init__(self, place):
        self.place = place

    def told(self):
        return "refused nopoints"


class NoImage(SeriesError):
    """There is no such image; `word` names what stands against it."""

    def __init__(self, word):
        self.word = word

    def told(self):
        return "refused noimage"


class NoReduction(SeriesError):
    """It cannot be reduced; `place` is that of the first bad coefficient, or -1."""

    def __init__(self, place):
        self.place = place

    def told(self):
        return "refused noreduction"


class NoText(SeriesError):
    """The text is that of no such thing; `word` names the thing."""

    def __init__(self, word):
        self.word = word

    def told(self):
        return "refused notext"


class Full(SeriesError):
    """The reader holds as many numbers as it can."""

    def told(self):
        return "refused full"


class NoBack(SeriesError):
    """The reader holds no number that could be removed."""

    def told(self):
        return "refused noback"


class NoLine(SeriesError):
    """The line is none that the desk knows."""

    def told(self):
        return "refused noline"


class NoLines(SeriesError):
    """No row of lines; `place` is that of the first bad one, or -1."""

    def __init__(self, place):
        self.place = place

    def told(self):
        return "refused nolines"


class NoUndo(SeriesError):
    """There is no change to undo."""

    def told(self):
        return "refused noundo"


class NoRedo(SeriesError):
    """There is no undone change to make again."""

    def told(self):
        return "refused noredo"
