"""A desk that carries out lines of text."""

from seriessquares.errors import NoLine, NoLines, NoRedo, NoUndo, SeriesError
from seriessquares.fields import Field
from seriessquares.finding import barred_at, fitting
from seriessquares.kinds import are_digits, is_a_sequence
from seriessquares.reader import Reader, foretold
from seriessquares.recurrences import length, outlook
from seriessquares.table import cell, square_of
from seriessquares.texts import fraction_text, number_text, read_number, series_text

MOST_DIGITS = 20


def _cell(series, m, n):
    return fraction_text(cell(series, m, n))


def _square(series, m, n):
    found = square_of(series, m, n)
    return f"{found.m} {found.n} {found.size} {'closed' if found.closed else 'open'}"


def _fit(series, m, n):
    found = fitting(series, m, n)
    if found is None:
        return f"barred {barred_at(series, m, n)}"
    return fraction_text(found)


def _length(reader):
    return "0" if len(reader) == 0 else str(length(reader.series()))


def _outlook(reader):
    now, most, number = outlook(reader.series())
    return f"{now} {most} {'any' if number is None else number_text(reader.field, number)}"


def _expected(reader):
    return number_text(reader.field, reader.expected())


def _series(reader):
    return series_text(reader.series())


# The questions of a line: those with two degrees are asked of a series, those of one word of a reader.
OF_PAIRS = {"cell": _cell, "square": _square, "fit": _fit}
OF_READERS = {"length": _length, "outlook": _outlook, "expected": _expected, "series": _series}


def _is_degree(word):
    """Whether the word is one of decimal digits, without a leading zero."""
    return are_digits(word, MOST_DIGITS) and (word == "0" or not word.startswith("0"))


def _answer(reader, words):
    """The answer to a question of these words; it raises NoLine if they are none."""
    if len(words) == 1 and words[0] in OF_READERS:
        ask = OF_READERS[words[0]]
        return ask(reader)
    if len(words) == 3 and words[0] in OF_PAIRS and _is_degree(words[1]) and _is_degree(words[2]):
        ask = OF_PAIRS[words[0]]
        return ask(reader.series(), int(words[1]), int(words[2]))
    raise NoLine()


class Desk:
    """A reader that is told by lines, with all changes of it and all lines."""

    def __init__(self, prime=0):
        self._reader = Reader(Field(prime))
        # What the reader held before each change, and after each one that was undone.
        self._past = []
        self._future = []
        self._told = []

    def _keep(self, before):
        """Keep what the reader held before a change."""
        self._past.append(before)
        self._future = []

    def _take(self, word):
        before = self._reader.numbers
        closed = self._reader.take(read_number(self._reader.field, word))
        self._keep(before)
        return f"closed {len(closed)}"

    def _try(self, word):
        number = read_number(self._reader.field, word)
        return f"closes {len(foretold(self._reader, [number])[0])}"

    def _back(self):
        before = self._reader.numbers
        number = self._reader.back()
        self._keep(before)
        return f"back {number_text(self._reader.field, number)}"

    def _undo(self):
        if len(self._past) == 0:
            raise NoUndo()
        self._future.append(self._reader.numbers)
        self._reader.numbers = self._past.pop()
        return "undone"

    def _redo(self):
        if len(self._future) == 0:
            raise NoRedo()
        self._past.append(self._reader.numbers)
        self._reader.numbers = self._future.pop()
        return "redone"

    def _carried_out(self, words):
        """Carry out a line of these words; its answer. It raises the errors of what the line does."""
        if "" in words:
            raise NoLine()
        if len(words) == 2 and words[0] == "take":
            return self._take(words[1])
        if len(words) == 2 and words[0] == "try":
            return self._try(words[1])
        if words == ["back"]:
            return self._back()
        if words == ["undo"]:
            return self._undo()
        if words == ["redo"]:
            return self._redo()
        return _answer(self._reader, words)

    def tell(self, line):
        """Carry out a line and return its answer."""
        if not isinstance(line, str):
            raise NoLine()
        try:
            answer = self._carried_out(line.split(" "))
        except SeriesError as error:
            answer = error.told()
        self._told.append((line, answer))
        return answer

    def __call__(self, line):
        return self.tell(line)

    def tell_all(self, lines):
        """Carry out the lines in order and return their answers."""
        if not is_a_sequence(lines):
            raise NoLines(-1)
        for place, line in enumerate(lines):
            if not isinstance(line, str):
                raise NoLines(place)
        return [self.tell(line) for line in lines]

    def journal(self):
        """The pairs (line, answer) of all lines so far."""
        return list(self._told)
