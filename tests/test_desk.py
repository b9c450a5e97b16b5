"""Points [52] and [53]."""

import unittest
from itertools import product

import by_hand
from cases import Case, passed, ratio, series
from others import no_integers, no_sequences, other_things
from plain import PRIMES, Chance, Plain, notable_rows
from seriessquares.desk import Desk
from seriessquares.errors import NoCell, NoField, NoLine, NoLines, NotKnown
from seriessquares.fields import Field
from seriessquares.finding import barred_at, fitting, simplest
from seriessquares.going import going_on
from seriessquares.ratios import Ratio
from seriessquares.reader import Reader, fill
from seriessquares.recurrences import length, outlook
from seriessquares.table import cell, square_of
from seriessquares.texts import fraction_text, number_text, series_text

ASKING = ["cell 0 0", "square 0 0", "fit 0 0", "outlook", "expected", "series"]


def telling(prime, row):
    """A desk that has taken the row."""
    desk = Desk(prime)
    plain = Plain(prime)
    desk.tell_all([f"take {number_text(plain.field, ratio(number))}" for number in row])
    return desk


def held(desk):
    """The text of what the desk's reader holds, as the desk tells it; asking for it is one more line."""
    return desk.tell("series")


class DeskCase(Case):

    def answers(self, desk, line, answer):
        """Fail unless the line has this answer."""
        found = desk.tell(line)
        self.assertIs(type(found), str)
        self.assertEqual(found, answer, line)

    def keeps(self, desk, line, answer):
        """Fail unless the line has this answer and changes neither the reader nor what can be undone."""
        before = held(desk)
        self.answers(desk, line, answer)
        self.assertEqual(held(desk), before)


class FormTest(DeskCase):

    def test_take_and_try(self):
        for prime in PRIMES:
            plain = Plain(prime)
            for row in notable_rows(prime):
                desk, reader = Desk(prime), Reader(Field(prime))
                for number in row:
                    text = number_text(plain.field, ratio(number))
                    many = len(fill(Reader(Field(prime)), reader.numbers).take(ratio(number)))
                    if len(reader) > 0:
                        self.keeps(desk, f"try {text}", f"closes {many}")
                    else:
                        self.answers(desk, f"try {text}", f"closes {many}")
                        self.answers(desk, "length", "0")
                    self.answers(desk, f"take {text}", f"closed {many}")
                    reader.take(ratio(number))
                    self.answers(desk, "series", series_text(reader.series()))

    def test_the_count_of_closed_squares_by_hand(self):
        for prime in PRIMES:
            plain = Plain(prime)
            for row in notable_rows(prime)[:9]:
                desk = telling(prime, row[:-1])
                told = by_hand.known_squares(plain, row)
                many = len([each for each in told if each[3] and sum(each[:3]) == len(row) - 1])
                text = number_text(plain.field, ratio(row[-1]))
                self.answers(desk, f"try {text}", f"closes {many}")
                self.answers(desk, f"take {text}", f"closed {many}")

    def test_back(self):
        for prime in PRIMES:
            plain = Plain(prime)
            row = plain.row([1, 0, -1, Ratio(1, 11)])
            desk = telling(prime, row)
            for number in reversed(row):
                self.answers(desk, "back", "back " + number_text(plain.field, ratio(number)))
            self.answers(desk, "back", "refused noback")
            self.answers(desk, "length", "0")
        self.assertEqual(telling(0, [1, Ratio(-1, 2)]).tell("back"), "back -1/2")

    def test_cell_square_and_fit(self):
        for prime in PRIMES:
            for row in notable_rows(prime):
                known = series(Plain(prime), row)
                desk = telling(prime, row)
                for m, n in product(range(len(row) + 2), repeat=2):
                    try:
                        square = square_of(known, m, n)
                    except NotKnown:
                        for word in ("cell", "square", "fit"):
                            self.answers(desk, f"{word} {m} {n}", "refused notknown")
                        continue
                    self.answers(desk, f"cell {m} {n}", fraction_text(cell(known, m, n)))
                    shown = f"{square.m} {square.n} {square.size} {'closed' if square.closed else 'open'}"
                    self.answers(desk, f"square {m} {n}", shown)
                    found = fitting(known, m, n)
                    answer = f"barred {barred_at(known, m, n)}" if found is None else fraction_text(found)
                    self.answers(desk, f"fit {m} {n}", answer)

    def test_length_outlook_expected_and_series(self):
        for prime in PRIMES:
            plain = Plain(prime)
            for row in notable_rows(prime):
                known = series(plain, row)
                desk = telling(prime, row)
                self.answers(desk, "length", str(length(known)))
                now, most, number = outlook(known)
                last = "any" if number is None else number_text(plain.field, number)
                self.answers(desk, "outlook", f"{now} {most} {last}")
                self.answers(desk, "expected", number_text(plain.field, going_on(simplest(known), len(row))))
                self.answers(desk, "series", series_text(known))

    def test_some_answers(self):
        desk = Desk()
        for line, answer in [("length", "0"), ("take 1", "closed 0"), ("take 0", "closed 0"), ("take 0", "closed 0"),
                             ("take 0", "closed 0"), ("try 1", "closes 1"), ("try 0", "closes 0"), ("take 1", "closed 1"),
                             ("square 3 3", "0 0 4 closed"), ("square 4 0", "4 0 1 open"), ("cell 4 0", "(1 + 1*x^4)/(1)"),
                             ("cell 0 4", "(1)/(1 - 1*x^4)"), ("cell 4 1", "refused notknown"), ("fit 1 1", "barred 4"),
                             ("fit 0 4", "(1)/(1 - 1*x^4)"), ("outlook", "4 4 any"), ("expected", "0"), ("length", "4"),
                             ("series", "1, 0, 0, 0, 1"), ("back", "back 1"), ("outlook", "1 4 0")]:
            self.answers(desk, line, answer)
        desk = Desk(7)
        for line, answer in [("take 3", "closed 0"), ("take 6", "closed 1"), ("expected", "0"), ("outlook", "1 2 5"),
                             ("take 5", "closed 1"), ("expected", "3"), ("series", "3, 6, 5"), ("cell 0 1", "(3)/(1 + 5*x)")]:
            self.answers(desk, line, answer)

    def test_the_example(self):
        lines = ["take 1", "take 1", "take 1/2", "take 0", "outlook", "expected", "fit 1 1", "undo", "cell 1 1"]
        answers = ["closed 0", "closed 1", "closed 2", "closed 1", "2 3 -1/4", "0", "barred 3", "undone",
                   "(1 + 1/2*x)/(1 - 1/2*x)"]
        self.assertEqual(Desk().tell_all(lines), answers)
        desk = Desk()
        self.assertEqual([desk(line) for line in lines], answers)
        self.assertEqual(desk.journal(), list(zip(lines, answers)))


class NoLineTest(DeskCase):

    def test_lines_of_no_form(self):
        good = ["take 1", "try 1", "back", "cell 0 0", "square 0 0", "fit 0 0", "length", "outlook", "expected", "series",
                "undo", "redo"]
        wrong = ["", " ", "  ", "take ", "try ", " take", "cell ", "cell 0 ", "back ", "   ", "take  ", "cell", "cell 0", "square", "square 0", "fit", "fit 0", "take", "try", "cells 0 0", "close",
                 "fitting 0 0", "taken 1", "journal", "tell", "numbers", "take1", "cell0 0", "cell 0,0", "expect", "un do",
                 "any", "closed 0", "take\n1", "back\n", "length.", "\"series\"", "prime", "simplest", "quit", "0 0 cell"]
        for line in good:
            wrong += [" " + line, line + " ", line + " 1", line + " x", line.upper(), line.capitalize(), line.title(), "x " + line,
                      line.replace(" ", "  "), line.replace(" ", "\t") if " " in line else line + "\t", line + "\n"]
        for prime in (0, 7):
            for row in ([], [1, 1, 0]):
                desk = telling(prime, row)
                for line in wrong:
                    if line not in good:
                        with self.subTest(line=line):
                            if line.startswith("take ") and len(line.split(" ")) == 2 and "" not in line.split(" "):
                                self.keeps(desk, line, "refused notext")
                            elif line.startswith("try ") and len(line.split(" ")) == 2 and "" not in line.split(" "):
                                self.keeps(desk, line, "refused notext")
                            else:
                                self.keeps(desk, line, "refused noline")

    def test_degrees(self):
        most = "9" * 20
        for word in ("cell", "square", "fit"):
            desk = telling(7, [1, 2, 3])
            for bad in ["00", "01", "-1", "+1", "1.0", "x", "1/2", "1_0", "0x1", "True", "None", "1" * 21, "0" * 20, "0" * 2,
                        "9" * 30, "\u0661", "\u00b2", "1,"]:
                for line in (f"{word} {bad} 0", f"{word} 0 {bad}", f"{word} {bad} {bad}", f"{word} 99 {bad}"):
                    self.keeps(desk, line, "refused noline")
            for m, n in [("40", "0"), ("0", "40"), (most, "0"), ("0", most), (most, most), ("41", "1" + "0" * 19)]:
                self.keeps(desk, f"{word} {m} {n}", "refused nocell")
            self.keeps(desk, f"{word} 39 39", "refused notknown")
            self.keeps(desk, f"{word} 10 39", "refused notknown")
            # No line comes before no series.
            self.answers(Desk(7), f"{word} 01 0", "refused noline")
            self.answers(Desk(7), f"{word} 0 {'1' * 21}", "refused noline")

    def test_numbers_that_are_not_read(self):
        for prime, words in [(0, ["x", "+1", "01", "2/4", "1/0", "1.5", "-0", "1" * 61, "1/1", "--1", "0/1"]),
                             (7, ["x", "-1", "01", "1/2", "7", "8", "10", "007", "1" * 61, "+1"])]:
            # This comes before all other reasons.
            for desk in (Desk(prime), telling(prime, [1]), telling(prime, [1] * 32)):
                for word in words:
                    self.answers(desk, f"take {word}", "refused notext")
                    self.answers(desk, f"try {word}", "refused notext")
                self.answers(desk, "undo", "refused noundo" if held(desk) == "refused noseries" else "undone")

    def test_no_string(self):
        for prime in (0, 7):
            desk = telling(prime, [1])
            many = len(desk.journal())
            for wrong in [each for each in [*other_things(), 1, ["back"], ("back",), b"back"] if not isinstance(each, str)]:
                self.refused(NoLine, None, desk.tell, wrong)
                self.refused(NoLine, None, desk, wrong)
            self.assertEqual(len(desk.journal()), many)
            self.answers(desk, "series", "1")


class RefusedTest(DeskCase):

    def test_none_held(self):
        for prime in PRIMES:
            for lines in ([], ["take 1", "back"], ["take 1", "undo"]):
                desk = Desk(prime)
                desk.tell_all(lines)
                for line in [*ASKING, "cell 40 0", "square 99 99", "fit 39 39", f"cell {'9' * 20} 0", "take 0", "try 0"]:
                    self.answers(desk, line, "refused noseries")
                self.answers(desk, "length", "0")
                self.answers(desk, "back", "refused noback")

    def test_32_held(self):
        for prime in PRIMES:
            row = [1, *[0] * 30, 1]
            desk = telling(prime, row[:-1])
            self.keeps(desk, "try 1", "closes 1")
            self.answers(desk, "take 1", "closed 1")
            for number in ("0", "1"):
                self.keeps(desk, f"take {number}", "refused full")
                self.keeps(desk, f"try {number}", "refused full")
            self.answers(desk, "length", "31")
            self.answers(desk, "square 30 30", "0 0 31 closed")
            self.answers(desk, "expected", "0")
            self.answers(desk, "outlook", "31 31 any")
            self.answers(desk, "back", "back 1")
            self.answers(desk, "undo", "undone")
            self.answers(desk, "redo", "redone")
            self.answers(desk, "take 0", "closed 0")
            self.answers(desk, "take 0", "refused full")

    def test_no_undo_and_no_redo(self):
        for prime in (0, 7):
            desk = Desk(prime)
            for line in ("undo", "redo"):
                self.answers(desk, line, f"refused no{line}")
            for line in ("take x", "take 0", "back", "cell 0 0", "length", "noline", "try 1"):
                desk.tell(line)
            for line in ("undo", "redo"):
                self.answers(desk, line, f"refused no{line}")
            desk.tell("take 1")
            self.answers(desk, "redo", "refused noredo")
            self.answers(desk, "undo", "undone")
            self.answers(desk, "undo", "refused noundo")
            self.answers(desk, "redo", "redone")
            self.answers(desk, "redo", "refused noredo")
            self.answers(desk, "series", "1")

    def test_refused_primes(self):
        for wrong in [1, 4, -7, 9974, 10007, 10 ** 20, Ratio(7), "7", *no_integers()]:
            self.refused(NoField, None, Desk, wrong)
        self.assertEqual(Desk(prime=7).tell("take 7"), "refused notext")
        self.assertEqual(Desk(0).tell("take 7"), "closed 0")

    def test_refused_answers_are_as_the_errors_tell(self):
        self.assertEqual(NoCell("m").told(), telling(7, [1]).tell("cell 40 0"))
        self.assertEqual(NotKnown(1).told(), telling(7, [1]).tell("cell 1 1"))


class UndoTest(DeskCase):

    def test_one_behind_the_other(self):
        for prime in PRIMES:
            desk = Desk(prime)
            states = ["refused noseries"]
            for line in ["take 1", "take 0", "take 1", "back", "back", "take 1", "take 1", "back"]:
                desk.tell(line)
                states.append(held(desk))
            for state in reversed(states[:-1]):
                self.answers(desk, "undo", "undone")
                self.assertEqual(held(desk), state)
            self.answers(desk, "undo", "refused noundo")
            for state in states[1:]:
                self.answers(desk, "redo", "redone")
                self.assertEqual(held(desk), state)
            self.answers(desk, "redo", "refused noredo")
            for _ in range(3):
                self.answers(desk, "undo", "undone")
            self.answers(desk, "redo", "redone")
            self.assertEqual(held(desk), states[-3])
            self.answers(desk, "undo", "undone")
            self.assertEqual(held(desk), states[-4])

    def test_a_change_makes_the_undone_ones_forgotten(self):
        for change, after in [("take 1", "1, 1"), ("back", "refused noseries")]:
            desk = telling(7, [1, 2, 3])
            desk.tell_all(["undo", "undo"])
            desk.tell(change)
            self.assertEqual(held(desk), after)
            self.answers(desk, "redo", "refused noredo")
            self.answers(desk, "undo", "undone")
            self.assertEqual(held(desk), "1")
            self.answers(desk, "redo", "redone")
            self.assertEqual(held(desk), after)

    def test_what_is_no_change_forgets_nothing(self):
        for line in ("take x", "try 1", "try 9", "length", "cell 0 0", "cell 99 0", "outlook", "nothing", "", "undo x", "series"):
            desk = telling(7, [1, 2, 3])
            desk.tell_all(["undo", "undo"])
            desk.tell(line)
            self.answers(desk, "redo", "redone")
            desk.tell(line)
            self.assertEqual(held(desk), "1, 2")
            self.answers(desk, "redo", "redone")
            self.assertEqual(held(desk), "1, 2, 3")

    def test_refused_changes_forget_nothing(self):
        desk = telling(7, [1])
        desk.tell_all(["undo", "back", "take 0", "take 7", "try 0"])
        self.answers(desk, "redo", "redone")
        self.assertEqual(held(desk), "1")
        desk = telling(7, [1] * 32)
        desk.tell_all(["back", "undo", "take 1", "take 5"])
        self.answers(desk, "redo", "redone")
        self.assertEqual(held(desk), ", ".join(["1"] * 31))

    def test_by_chance_against_rows_of_states(self):
        for prime in (0, 2, 7):
            chance = Chance(prime, "undo")
            desk = Desk(prime)
            states, now = [()], 0
            for _ in range(300):
                line = chance.random.choice(["take 1", "take 0", "back", "undo", "redo", "undo", "try 1", "take 1"])
                answer = desk.tell(line)
                if line == "undo":
                    self.assertEqual(answer, "undone" if now > 0 else "refused noundo")
                    now = max(0, now - 1)
                elif line == "redo":
                    self.assertEqual(answer, "redone" if now + 1 < len(states) else "refused noredo")
                    now = min(len(states) - 1, now + 1)
                elif not line.startswith("try") and not answer.startswith("refused"):
                    row = states[now][:-1] if line == "back" else (*states[now], line[-1])
                    states, now = [*states[:now + 1], row], now + 1
                self.assertEqual(held(desk), ", ".join(states[now]) or "refused noseries")


class AllTest(DeskCase):

    def test_tell_all(self):
        lines = ["take 1", "series", "back", "nothing", ""]
        for kind in (list, tuple):
            desk = Desk(7)
            found = desk.tell_all(kind(lines))
            self.assertIs(type(found), list)
            self.assertEqual(found, ["closed 0", "1", "back 1", "refused noline", "refused noline"])
            self.assertEqual(desk.journal(), list(zip(lines, found)))
            found.clear()
            self.assertEqual(desk.tell_all(lines=[]), [])
            self.assertEqual(len(desk.journal()), 5)
        self.assertEqual(lines, ["take 1", "series", "back", "nothing", ""])

    def test_no_lines(self):
        desk = telling(7, [1])
        for wrong in [*no_sequences(), "back", {"back"}, {"back": 1}]:
            self.refused(NoLines, -1, desk.tell_all, wrong)
        for wrong in [each for each in no_integers() if not isinstance(each, str)] + [1, 5, ["back"], ("back",), b"back"]:
            for place in range(3):
                lines = ["take 2", "take 3", "back", None]
                lines[place] = wrong
                for kind in (list, tuple):
                    self.refused(NoLines, place, desk.tell_all, kind(lines))
        self.assertEqual(desk.journal(), [("take 1", "closed 0")])
        self.answers(desk, "series", "1")

    def test_journal(self):
        desk = Desk(7)
        self.assertEqual(desk.journal(), [])
        told = []
        for line in ["take 1", "nothing", "take 9", "undo", "undo", "cell 0 0", "redo", "cell 0 0", ""]:
            told.append((line, desk.tell(line)))
            found = desk.journal()
            self.assertIs(type(found), list)
            self.assertTrue(all(type(each) is tuple for each in found))
            self.assertEqual(found, told)
            found.clear()
        self.assertEqual(desk.journal(), told)
        self.assertEqual(told[1:6], [("nothing", "refused noline"), ("take 9", "refused notext"), ("undo", "undone"),
                                     ("undo", "refused noundo"), ("cell 0 0", "refused noseries")])

    def test_a_new_desk_gives_the_same_answers(self):
        for prime in PRIMES:
            chance = Chance(prime, "journal")
            desk = Desk(prime)
            lines = ["take 1", "take 0", "take 1/2", "back", "undo", "redo", "try 1", "take -1", "cell 1 1", "fit 2 0",
                     "square 0 1", "length", "outlook", "expected", "series", "nothing", "take 1"]
            for _ in range(60):
                desk.tell(chance.random.choice(lines))
            journal = desk.journal()
            self.assertEqual(Desk(prime).tell_all([line for line, _ in journal]), [answer for _, answer in journal])

    def test_two_desks_do_not_disturb_each_other(self):
        one, other = Desk(7), Desk()
        one.tell("take 2")
        self.answers(other, "series", "refused noseries")
        other.tell("take -1/2")
        self.answers(one, "series", "2")
        self.answers(other, "series", "-1/2")
        self.assertEqual(len(Desk(7).journal()), 0)
        self.assertEqual(len(one.journal()), 2)

    def test_names_of_the_parameters(self):
        desk = Desk(prime=5)
        self.assertEqual(desk.tell(line="take 1"), "closed 0")
        self.assertEqual(desk(line="take 1"), "closed 1")
        self.assertEqual(desk.tell_all(lines=("series",)), ["1, 1"])
        self.assertEqual(passed([1]), [1])

    def test_the_class_stands_in_its_module(self):
        self.listed(Desk, "seriessquares.desk", ["__init__", "__call__", "tell", "tell_all", "journal"])


if __name__ == "__main__":
    unittest.main()
