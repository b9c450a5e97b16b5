"""Points [1] and [2] over the whole program, and the section "The interface"."""

import importlib
import inspect
import os
import subprocess
import sys
import unittest
from pathlib import Path

from seriessquares import desk, errors, going, hankel, images, points, reader, recurrences, roads, table, texts
from seriessquares.fields import Field
from seriessquares.finding import barred_at, fitting, how_many, simplest
from seriessquares.polys import Poly, gcd
from seriessquares.ratios import Ratio
from seriessquares.rationals import Fraction
from seriessquares.series import Series
from seriessquares.squares import Square

# The functions of each module with their parameters; "*" stands before those that are passed by name alone.
FUNCTIONS = {
    "polys": ["gcd(one, other)"],
    "table": ["cell(series, m, n)", "is_sure(series, m, n)", "square_of(series, m, n)", "squares(series)",
              "twins(series, m, n)", "check_cell(series, m, n, thing)", "check_square(series, thing)"],
    "hankel": ["determinant(series, m, n)", "neighbours(series, m, n)"],
    "roads": ["road(series, total)", "quotients(series, total)", "rebuilt(field, parts)"],
    "finding": ["how_many(series, m, n)", "fitting(series, m, n)", "barred_at(series, m, n)", "simplest(series)"],
    "recurrences": ["length(series)", "recurrence(series)", "check_recurrence(series, candidate)", "profile(series)",
                    "outlook(series)"],
    "going": ["going_on(fraction, index)", "unrolled(fraction, count)"],
    "points": ["through(field, points, m, n)", "check_passage(field, points, m, n, candidate)",
               "mended(field, points, *, top, bottom)"],
    "images": ["turned(series)", "raised(thing, poly)", "scaled_fraction(fraction, number)",
               "bent_fraction(fraction, number)", "spread(thing, step)", "reduced(series, prime)",
               "reduced_fraction(fraction, prime)"],
    "texts": ["number_text(field, number)", "read_number(field, text)", "poly_text(poly)", "read_poly(field, text)",
              "fraction_text(fraction)", "read_fraction(field, text)", "series_text(series)", "read_series(field, text)"],
    "reader": ["fill(reader, numbers)", "foretold(reader, numbers)"],
}

# The classes of each module: the parameters, the methods, the operators and the class attributes and properties.
CLASSES = {
    "ratios": {"Ratio": ("(top, bottom=1)", ["over(other)", "text()"], "add radd sub rsub mul rmul neg eq", ["read"])},
    "fields": {"Field": ("(prime=0)", ["number(value)", "over(one, other)"], "eq", [])},
    "polys": {"Poly": ("(field, coefficients)", ["coefficient(k)", "at(x)", "divided(other)", "monic()"],
                       "add radd sub rsub mul rmul neg floordiv mod eq call", ["MOST"])},
    "series": {"Series": ("(field, coefficients)", ["first(count)", "then(numbers)", "over(other)", "scaled(t)", "bent(t)"],
                          "len add sub mul rmul neg eq", [])},
    "rationals": {"Fraction": ("(top, bottom)", ["series(count)", "agreement(series)", "over(other)", "turned()"],
                               "add radd sub rsub mul rmul neg eq", [])},
    "squares": {"Square": ("(m, n, size, closed, fraction)", ["has(m, n)"], "eq", [])},
    "roads": {"Stretch": ("(start, end, fraction)", [], "eq", [])},
    "points": {"Passage": ("(top, bottom, missed)", ["at(number)"], "eq", [])},
    "images": {"Moebius": ("(field, p, q, r, s)", ["back()"], "mul eq call", [])},
    "reader": {"Reader": ("(field)", ["take(number)", "back()", "series()", "expected()", "trying()", "opened()"],
                          "len iadd", ["MOST", "numbers"])},
    "desk": {"Desk": ("(prime=0)", ["tell(line)", "tell_all(lines)", "journal()"], "call", [])},
}

ERRORS = {
    "NoRatio": "word", "NoField": None, "NoNumber": None, "NoPoly": "place", "OtherField": None, "NoSeries": "place",
    "NoCount": None, "NoFraction": "word", "NoCell": "word", "NotKnown": "known", "NoQuotients": "place",
    "NoPoints": "place", "NoImage": "word", "NoReduction": "place", "NoText": "word", "Full": None, "NoBack": None,
    "NoLine": None, "NoLines": "place", "NoUndo": None, "NoRedo": None,
}


def module(name):
    return importlib.import_module(f"seriessquares.{name}")


def parameters(call):
    """The parameters of a call without the object itself, as they are listed."""
    signature = inspect.signature(call)
    kept = [each for each in signature.parameters.values() if each.name != "self"]
    return str(signature.replace(parameters=kept))


def shown(thing):
    """All that a thing holds, as nested tuples; a reader holds what it tells."""
    if isinstance(thing, (list, tuple)):
        return (type(thing).__name__, *[shown(each) for each in thing])
    if isinstance(thing, dict):
        return ("dict", *[(shown(key), shown(value)) for key, value in thing.items()])
    if type(thing).__module__.startswith("seriessquares"):
        return (type(thing).__name__, *[(name, shown(value)) for name, value in sorted(vars(thing).items())])
    return (type(thing).__name__, repr(thing))


class InterfaceTest(unittest.TestCase):

    def test_the_functions(self):
        for name, listed in FUNCTIONS.items():
            for each in listed:
                word, rest = each.split("(", 1)
                found = getattr(module(name), word)
                self.assertTrue(inspect.isfunction(found), each)
                self.assertEqual((found.__module__, found.__name__), (f"seriessquares.{name}", word))
                self.assertEqual(parameters(found), "(" + rest)

    def test_the_classes(self):
        for name, classes in CLASSES.items():
            for word, (made, methods, operators, others) in classes.items():
                found = getattr(module(name), word)
                self.assertEqual((found.__module__, found.__name__), (f"seriessquares.{name}", word))
                self.assertEqual(found.__bases__, (object,))
                self.assertEqual(parameters(found), made)
                for method in methods:
                    called, rest = method.split("(", 1)
                    self.assertEqual(parameters(vars(found)[called]), "(" + rest, f"{word}.{method}")
                for operator in operators.split():
                    self.assertIn(f"__{operator}__", vars(found), word)
                for other in others:
                    self.assertIn(other, vars(found), word)

    def test_class_attributes_static_methods_properties_and_generators(self):
        self.assertEqual((Poly.MOST, reader.Reader.MOST), (100, 32))
        self.assertIs(type(vars(Ratio)["read"]), staticmethod)
        self.assertEqual(parameters(Ratio.read), "(text)")
        self.assertIs(type(vars(reader.Reader)["numbers"]), property)
        for generator in (going.unrolled, reader.Reader.opened):
            self.assertTrue(inspect.isgeneratorfunction(generator))

    def test_the_fields_are_set_when_the_object_is_created(self):
        field = Field(7)
        poly = Poly(field, [1, 2])
        one = Fraction(poly, Poly(field, [1]))
        for thing, names in [(Ratio(1), "top bottom"), (field, "prime"), (poly, "field coefficients degree"),
                             (Series(field, [1]), "field coefficients known"), (one, "field top bottom degrees"),
                             (Square(0, 0, 1, True, one), "m n size closed fraction"),
                             (roads.Stretch(1, 0, one), "start end fraction"),
                             (points.Passage(poly, poly, ()), "top bottom missed"),
                             (images.Moebius(field, 1, 0, 0, 1), "field p q r s"), (reader.Reader(field), "field")]:
            for name in names.split():
                self.assertIn(name, vars(thing))

    def test_the_errors(self):
        listed = [name for name, found in vars(errors).items() if inspect.isclass(found)]
        self.assertEqual(sorted(listed), sorted([*ERRORS, "SeriesError"]))
        self.assertEqual(errors.SeriesError.__bases__, (ValueError,))
        for name, field in ERRORS.items():
            found = getattr(errors, name)
            self.assertEqual((found.__bases__, found.__module__), ((errors.SeriesError,), "seriessquares.errors"))
            made = found() if field is None else found(**{field: 3})
            self.assertEqual(vars(made), {} if field is None else {field: 3})
            self.assertIn("told", vars(found))
            self.assertEqual(made.told(), "refused " + name.lower())
        self.assertEqual(errors.SeriesError().told(), "refused serieserror")


def calls():
    """Calls of everything, each with its arguments."""
    for prime in (0, 7):
        field = Field(prime)
        one, other = Poly(field, [1, 2, 1]), Poly(field, [1, 1])
        known = Series(field, [1, 1, 0, 2, 5, 1])
        first, second = Fraction(other, Poly(field, [1, 0, 3])), Fraction(Poly(field, [2]), other)
        moebius = images.Moebius(field, 1, 2, 1, 1)
        given = [[0, 1], (1, Ratio(1, 2)), [2, 10]]
        passage = points.through(field, given, 1, 1)
        yield from [
            (field.number, [Ratio(1, 3)]), (field.over, [1, 3]), (Poly, [field, [1, 9]]), (Series, [field, [1, 9]]),
            (one.at, [3]), (one, [3]), (one.divided, [other]), (one.monic, []), (one.coefficient, [1]), (gcd, [one, other]),
            (known.first, [3]), (known.then, [[1, 9]]), (known.over, [known]), (known.scaled, [3]), (known.bent, [3]),
            (Fraction, [one, other]), (first.series, [9]), (first.agreement, [known]), (first.over, [second]), (first.turned, []),
            (table.cell, [known, 2, 2]), (table.is_sure, [known, 2, 2]), (table.square_of, [known, 1, 2]),
            (table.squares, [known]), (table.twins, [known, 4, 4]), (table.check_cell, [known, 1, 1, first]),
            (table.check_square, [known, table.square_of(known, 1, 1)]), (hankel.determinant, [known, 2, 3]),
            (hankel.neighbours, [known, 1, 1]), (roads.road, [known, 4]), (roads.quotients, [known, 4]),
            (roads.rebuilt, [field, [one, other]]), (how_many, [known, 2, 2]), (fitting, [known, 2, 3]),
            (barred_at, [known, 1, 2]), (simplest, [known]), (recurrences.length, [known]), (recurrences.recurrence, [known]),
            (recurrences.check_recurrence, [known, [1, 9, 3]]), (recurrences.profile, [known]), (recurrences.outlook, [known]),
            (going.going_on, [first, 20]), (points.through, [field, given, 1, 1]),
            (points.check_passage, [field, given, 1, 1, passage]), (passage.at, [3]), (points.Passage, [one, other, [1, 2]]),
            (images.turned, [known]), (moebius, [known]), (moebius, [first]), (moebius.back, []), (images.raised, [known, one]),
            (images.raised, [first, one]), (images.scaled_fraction, [first, 3]), (images.bent_fraction, [first, 3]),
            (images.spread, [known, 2]), (images.spread, [first, 3]), (texts.number_text, [field, Ratio(1, 3)]),
            (texts.read_number, [field, "5"]), (texts.poly_text, [one]), (texts.read_poly, [field, "1 + 2*x"]),
            (texts.fraction_text, [first]), (texts.read_fraction, [field, "(1)/(1 + 2*x)"]), (texts.series_text, [known]),
            (texts.read_series, [field, "1, 2, 3"]), (reader.foretold, [reader.fill(reader.Reader(field), [1]), [0, 9, 1]]),
        ]
    exact = Series(Field(), [1, 7, Ratio(1, 3)])
    yield images.reduced, [exact, 7]
    yield images.reduced_fraction, [Fraction(Poly(Field(), [1, 7]), Poly(Field(), [1, Ratio(1, 3)])), 7]


def as_tuples(arguments):
    """The arguments with tuples in the place of lists."""
    return [tuple(as_tuples(each)) if isinstance(each, (list, tuple)) else each for each in arguments]


class ConventionTest(unittest.TestCase):

    def test_no_argument_is_changed(self):
        for call, arguments in calls():
            owner = getattr(call, "__self__", None)
            before = shown(arguments), shown(owner)
            call(*arguments)
            self.assertEqual((shown(arguments), shown(owner)), before, call)

    def test_equal_calls_have_equal_results(self):
        for call, arguments in calls():
            found = shown(call(*arguments))
            self.assertEqual(shown(call(*arguments)), found, call)
            self.assertEqual(shown(call(*as_tuples(arguments))), found, call)

    def test_every_returned_list_is_new(self):
        lists = 0
        for call, arguments in calls():
            found = call(*arguments)
            if isinstance(found, list):
                lists = lists + 1
                before = shown(found)
                found.append(None)
                found[0] = None
                self.assertEqual(shown(call(*arguments)), before, call)
        self.assertGreater(lists, 9)

    def test_arguments_by_name(self):
        for call, arguments in calls():
            if inspect.ismethod(call) or inspect.isfunction(call):
                names = [name for name in inspect.signature(call).parameters if name != "self"]
                self.assertEqual(shown(call(**dict(zip(names, arguments)))), shown(call(*arguments)), call)

    def test_in_place_operators_give_a_new_object(self):
        field = Field(7)
        poly, known = Poly(field, [1, 2]), Series(field, [1, 2])
        one = Fraction(poly, Poly(field, [1, 1]))
        for thing in (Ratio(1, 2), poly, known, one):
            kept = thing
            before = shown(kept)
            thing += kept
            thing -= kept + kept + kept
            thing *= kept
            self.assertEqual(shown(kept), before)
            self.assertIsNot(thing, kept)
        kept = poly
        poly //= Poly(field, [1])
        poly %= Poly(field, [0, 1])
        self.assertEqual(kept.coefficients, (1, 2))
        self.assertEqual(poly.coefficients, (1,))

    def test_what_was_passed_may_be_changed_afterwards(self):
        field, row = Field(7), [1, 2, 3]
        poly, known = Poly(field, row), Series(field, row)
        longer = known.then(row)
        held = reader.fill(reader.Reader(field), row)
        told = desk.Desk(7)
        lines = ["take 1", "series"]
        told.tell_all(lines)
        row.clear()
        lines.clear()
        self.assertEqual((poly.coefficients, known.coefficients, held.numbers), ((1, 2, 3),) * 3)
        self.assertEqual(longer.known, 6)
        self.assertEqual(len(told.journal()), 2)


SESSION = """
from seriessquares.desk import Desk
for prime in (0, 2, 7):
    desk = Desk(prime)
    for line in ("take 1", "take 0", "take 1", "take 1", "take 0", "take 2", "try 1", "back", "undo", "redo", "series"):
        print(desk.tell(line))
    for m in range(7):
        for n in range(7):
            print(desk.tell(f"cell {m} {n}"), desk.tell(f"square {m} {n}"), desk.tell(f"fit {m} {n}"))
    print(desk.tell_all(["length", "outlook", "expected", "nothing"]), desk.journal())
"""


class TheSameEachTimeTest(unittest.TestCase):

    def test_whatever_the_seed_of_hashes_and_the_folder(self):
        top = str(Path(__file__).resolve().parent.parent)
        told = set()
        for seed, folder in [("0", top), ("1", os.sep), ("2", top)]:
            run = subprocess.run([sys.executable, "-B", "-c", SESSION], cwd=folder, capture_output=True, text=True,
                                 env={"PYTHONPATH": top, "PYTHONHASHSEED": seed}, check=True)
            told.add(run.stdout)
        self.assertEqual(len(told), 1)
        self.assertGreater(len(told.pop().split("\n")), 150)


if __name__ == "__main__":
    unittest.main()
