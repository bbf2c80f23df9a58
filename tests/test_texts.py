"""Point 72."""

import re
import unittest

from pairpicks.errors import BadBook, BadOffice, BadText, NothingUndone
from pairpicks.office import Office
from pairpicks.plans import is_plan
from pairpicks.texts import book_text, office_text, read_book, read_office
from tests.helper import NOT_BOOKS, ODD, Dice, both, check_calls
from tests.office_model import Model, drawn_deed
from tests.test_office import everything, hand

HAND = (((0, 0), (1, 1)), ())
NUMBER = "(?:0|[1-9][0-9]?)"
PAIR = "[0-7]-[0-7]"
# The lines of an office, by the words, with what each deed takes.
LINES = {
    "come": f"({NUMBER})((?: {PAIR})*)", "change": f"({NUMBER})((?: {PAIR})*)", "leave": f"({NUMBER})",
    "put": f"({NUMBER}) ({PAIR})", "take_off": f"((?:{NUMBER} )*{NUMBER})", "grow": f"((?:{NUMBER} )*{NUMBER})",
    "grow_wide": f"((?:{NUMBER} )*{NUMBER})", "settle": "",
    "rename": "((?:[0-7] ){7}[0-7]) ((?:[0-7] ){7}[0-7])",
}
NO_TEXTS = [thing for thing in ODD if not isinstance(thing, str)] + [
    (), {}, 0, 7, ["book", "plan"], ("book", "plan"), HAND, {"book": "plan"}, [["office"]]]


def pairs_in(words):
    """The pairs that stand in these words."""
    return tuple((int(person), int(desk)) for person, desk in re.findall("([0-7])-([0-7])", words))


def numbers_in(words):
    """The numbers that stand in these words."""
    return tuple(int(number) for number in words.split(" "))


def book_by_words(text):
    """The book whose text it is, and None; or None and the first line from which on no text has it."""
    lines = text.split("\n")
    if lines[0] != "book":
        return None, 1
    for at, line in enumerate(lines[1:17]):
        if not re.fullmatch(f"plan(?: {PAIR})*", line) or not is_plan(pairs_in(line)):
            return None, at + 2
    if len(lines) > 17:
        return None, 18
    return (None, 2) if len(lines) == 1 else (tuple(pairs_in(line) for line in lines[1:]), None)


def deed_in(line):
    """The deed that a line tells, as a pair (name, values), or None."""
    name, blank, rest = line.partition(" ")
    found = re.fullmatch(LINES[name], rest) if name in LINES else None
    if found is None or (blank == "") != (name == "settle"):
        return None
    parts = found.groups()
    if name in ("come", "change"):
        return name, (int(parts[0]), pairs_in(parts[1]))
    if name == "put":
        return name, (int(parts[0]), pairs_in(parts[1])[0])
    if name == "leave":
        return name, (int(parts[0]),)
    return name, tuple(numbers_in(part) for part in parts)


def office_by_words(text):
    """The log of the office whose text it is, and None; or None and the first line from which on no text has it."""
    lines = text.split("\n")
    if lines[0] != "office":
        return None, 1
    model = Model()
    for at, line in enumerate(lines[1:]):
        deed = deed_in(line)
        if deed is None or model.error(*deed):
            return None, at + 2
        model.do(*deed)
    return model.told()["log"], None


def damaged(dice, text):
    """Texts like this one, with one line, one word, one sign otherwise, left out or put in twice."""
    found = []
    for mark in ("\n", " ", ""):
        parts = text.split(mark) if mark else list(text)
        for _ in range(12):
            at = dice.number(0, len(parts) - 1)
            other = dice.random.choice(parts + ["0", "1", "8", "-", "", " ", "\n", "plan", "settle", "0-0", "00", "+1"])
            for middle in ([], [parts[at], parts[at]], [other], [parts[at], other], [other, parts[at]]):
                found.append(mark.join(parts[:at] + middle + parts[at + 1:]))
    return found + [text + more for more in ("\n", " ", "\n\n", "\nplan", "\nsettle", "\n ", "-", "0", "\r", "\t")]


def told_of_book(text):
    """What read_book tells of the text, as book_by_words does."""
    try:
        return read_book(text), None
    except BadText as bad:
        return None, bad.line


def told_of_office(text):
    """What read_office tells of the text, as office_by_words does."""
    try:
        return read_office(text).log(), None
    except BadText as bad:
        return None, bad.line


class Books(unittest.TestCase):
    def test_by_hand(self):
        self.assertEqual(book_text(HAND), "book\nplan 0-0 1-1\nplan")
        self.assertEqual(read_book("book\nplan 0-0 1-1\nplan"), HAND)
        self.assertEqual(told_of_book("book"), (None, 2))

    def test_there_and_back(self):
        dice = Dice(430)
        for many in list(range(1, 17)) * 6:
            book = dice.book(many)
            text = book_text(book)
            self.assertEqual(read_book(text), book)
            due = ["book"] + ["plan" + "".join(f" {person}-{desk}" for person, desk in plan) for plan in book]
            self.assertEqual(text.split("\n"), due)
            self.assertEqual(book_by_words(text), (book, None))

    def test_damaged_texts(self):
        dice = Dice(431)
        found = set()
        for many in list(range(1, 17)) * 2:
            for text in damaged(dice, book_text(dice.book(many, most=5))):
                due = book_by_words(text)
                with self.subTest(text=text):
                    self.assertEqual(told_of_book(text), due)
                found.add(due[1])
                if due[0] is not None:
                    self.assertEqual(book_text(due[0]), text)
        self.assertLessEqual({None, *range(1, 19)}, found)

    def test_texts_of_no_book(self):
        for text, line in (
                ("", 1), ("\n", 1), (" ", 1), ("Book\nplan", 1), ("book ", 1), (" book\nplan", 1), ("book\n", 2),
                ("book\n\nplan", 2), ("book\nplan\n", 3), ("book\nplan ", 2), ("book\n plan", 2),
                ("book\nplan  0-0", 2),
                ("book\nplan 0-0 ", 2), ("book\nplan 0-0\n\n", 3), ("book\nplan 00-0", 2), ("book\nplan 0-00", 2),
                ("book\nplan +0-0", 2), ("book\nplan 0--0", 2), ("book\nplan -0-0", 2), ("book\nplan 0-8", 2),
                ("book\nplan 8-0", 2), ("book\nplan 0-0 0-1", 2), ("book\nplan 0-0 1-0", 2), ("book\nplan 1-1 0-0", 2),
                ("book\nplan 0", 2), ("book\nplan 0-", 2), ("book\nplan -0", 2), ("book\nplan -", 2),
                ("book\nplan 0-0-0", 2), ("book\nplan 0-0,1-1", 2), ("book\nplan 0_0", 2), ("book\nplan 0.0-0", 2),
                ("book\nplans", 2), ("book\nplan0-0", 2), ("book\nplan\t0-0", 2), ("book\nplan\x0b", 2),
                ("book\r\nplan", 1), ("book\nplan\r\nplan", 2), ("book\nplan\x85plan", 2), ("book\u2028plan", 1),
                ("book\nplan \u0660-0", 2), ("book\nplan 0-\u0661", 2), ("book\nplan \u00b2-0", 2),
                ("book\nplan \uff10-\uff10", 2), ("book\nplan\u00a00-0", 2), ("book\nplan 1" + "0" * 5000 + "-0", 2),
                ("book\nplan 0-" + "9" * 10000, 2), ("book\nplan 0-0 1-" + "1" * 5000 + "\nplan", 2),
                ("book\nplan 0-" + "0" * 10000, 2), ("book" + "\nplan" * 17, 18), ("book" + "\nplan" * 16 + "\n", 18),
                ("book" + "\nplan" * 30 + "\nnone", 18), ("book" + "\nplan" * 16 + "\nnone", 18),
                ("office\nplan", 1), ("plan\nbook", 1), ("book\nbook", 2), ("book\nplan\nbook", 3), ("0" * 5000, 1),
                ("book\nplan 0-0\nplan 0-x\nplan ?", 3), ("\ud800", 1), ("book\n\ud800", 2)):
            with self.subTest(text=text[:60]):
                self.assertEqual(told_of_book(text), (None, line))
                self.assertEqual(book_by_words(text), (None, line))
        self.assertEqual(read_book("book" + "\nplan" * 16), ((),) * 16)
        self.assertEqual(read_book("book\nplan"), ((),))

    def test_calls(self):
        self.assertEqual(check_calls(self, book_text, ["book"], (HAND,), [both(NOT_BOOKS, BadBook)]), book_text(HAND))
        check_calls(self, read_book, ["text"], (book_text(HAND),), [both(NO_TEXTS, BadText)])
        for thing in NO_TEXTS:
            self.assertEqual(told_of_book(thing), (None, None))


class Offices(unittest.TestCase):
    def office_of(self, seed, many, among):
        """An office of drawn deeds."""
        dice = Dice(seed)
        office, model = Office(), Model()
        while len(model.done) < many:
            name, values = drawn_deed(dice, model, among)
            if not model.error(name, values):
                getattr(office, name)(*values)
                model.do(name, values)
        return office

    def test_by_hand(self):
        self.assertEqual(told_of_office("office\ncome 3 0-0\nput 3 0-0\nput 3 0-0"), (None, 4))
        log = [("come", 3, ((0, 0),)), ("put", 3, (0, 0))]
        self.assertEqual(told_of_office("office\ncome 3 0-0\nput 3 0-0"), (log, None))
        self.assertEqual(office_text(Office()), "office")
        self.assertIs(read_office("office") == Office(), True)
        office = hand()
        office.grow((9, 2))
        office.change(9, ())
        office.settle()
        office.take_off((2, 5))
        office.grow_wide((5, 9, 2))
        office.rename((1, 0, 2, 3, 4, 5, 6, 7), (7, 6, 5, 4, 3, 2, 1, 0))
        office.leave(9)
        self.assertEqual(office_text(office).split("\n"), [
            "office", "come 5 0-0 1-1", "come 2 0-0 1-1", "come 9 0-1 1-0", "put 5 0-0", "grow 9 2", "change 9",
            "settle",
            "take_off 2 5", "grow_wide 5 9 2", "rename 1 0 2 3 4 5 6 7 7 6 5 4 3 2 1 0", "leave 9"])

    def test_there_and_back(self):
        for seed in range(440, 460):
            office = self.office_of(seed, 5 * (seed - 439), 2 + seed % 6)
            if seed % 3 == 0:
                office.undo()
            text = office_text(office)
            found = read_office(text)
            self.assertIs(found == office, True)
            self.assertEqual(everything(found), everything(office))
            self.assertEqual(office_text(found), text)
            self.assertRaises(NothingUndone, found.redo)
            self.assertEqual(office_by_words(text), (office.log(), None))
            while len(found):
                found.undo()
                self.assertEqual(read_office(office_text(found)).log(), found.log())

    def test_damaged_texts(self):
        dice = Dice(460)
        found = set()
        for seed in range(461, 475):
            for text in damaged(dice, office_text(self.office_of(seed, 3 + 2 * (seed - 461), 2 + seed % 4))):
                due = office_by_words(text)
                with self.subTest(text=text):
                    self.assertEqual(told_of_office(text), due)
                found.add(due[1])
        self.assertLessEqual({None, *range(1, 12)}, found)

    def test_texts_of_no_office(self):
        start = "office\ncome 3 0-0 1-1\ncome 4 0-0"
        for text, line in (
                ("", 1), ("\n", 1), ("office ", 1), ("office\n", 2), ("book\nplan", 1), ("Office", 1), (" office", 1),
                ("office\n\n", 2), ("office\nsettle\n", 3), ("office\nsettle ", 2), ("office\nsettle 0", 2),
                ("office\n settle", 2), ("office\nSettle", 2), ("office\nundo", 2), ("office\nredo", 2),
                ("office\nlog", 2),
                ("office\ncopy", 2), ("office\ngrow", 2), ("office\ngrow_wide", 2), ("office\ngrow ", 2),
                ("office\ntake_off", 2), ("office\ntake_off ", 2), ("office\nrename", 2), ("office\ncome", 2),
                ("office\ncome ", 2), ("office\nleave", 2), ("office\nput", 2), ("office\nchange", 2),
                (start + "\ncome 3", 4),
                (start + "\ncome 5 ", 4), (start + "\ncome 5  0-0", 4), (start + "\ncome  5", 4),
                (start + "\ncome 05", 4),
                (start + "\ncome +5", 4), (start + "\ncome -5", 4), (start + "\ncome 100", 4),
                (start + "\ncome 5-0", 4),
                (start + "\ncome 0-0", 4), (start + "\ncome 5 0-0 0-1", 4), (start + "\ncome 5 1-0 0-1", 4),
                (start + "\ncome \u0665", 4), (start + "\ncome " + "5" * 5000, 4),
                (start + "\ncome 5 0-" + "1" * 9000, 4),
                (start + "\nleave 03", 4), (start + "\nleave 3 4", 4), (start + "\nleave 3 ", 4),
                (start + "\nleave 5", 4),
                (start + "\nleave " + "3" * 4400, 4), (start + "\nput 3", 4), (start + "\nput 3 0-0 1-1", 4),
                (start + "\nput 3 0-1", 4), (start + "\nput 3 0-0\nput 4 0-0", 5), (start + "\nput 3 0-0 ", 4),
                (start + "\nput 0-0 3", 4), (start + "\nput 3-0-0", 4), (start + "\nput 3 0 0", 4),
                (start + "\ntake_off 3", 4), (start + "\nput 3 0-0\ntake_off 3 3", 5),
                (start + "\nput 3 0-0\ntake_off 3,", 5),
                (start + "\nput 3 0-0\ntake_off 3 4", 5), (start + "\ngrow 3", 4), (start + "\ngrow 3 4 4", 4),
                (start + "\ngrow 3 4 5", 4), (start + "\ngrow 3 04", 4), (start + "\ngrow  3 4", 4),
                (start + "\ngrow 3,4", 4),
                (start + "\nsettle\ngrow", 5), (start + "\nrename 0 1 2 3 4 5 6 7", 4),
                (start + "\nrename 0 1 2 3 4 5 6 7 0 1 2 3 4 5 6", 4),
                (start + "\nrename 0 1 2 3 4 5 6 7 0 1 2 3 4 5 6 7 0", 4),
                (start + "\nrename 0 1 2 3 4 5 6 8 0 1 2 3 4 5 6 7", 4),
                (start + "\nrename 0 1 2 3 4 5 6 7 0 0 2 3 4 5 6 7", 4),
                (start + "\nrename 0 1 2 3 4 5 6 7  0 1 2 3 4 5 6 7", 4), (start + "\ndo_come 5", 4), (start + "\n", 4),
                (start + "\n\nsettle", 4), (start + "\r\nsettle", 3), (start + "\nsettle\rsettle", 4), ("\ud800\n", 1),
                ("office\ncome 0 \ud800", 2), ("office" + "\nsettle" * 40 + "\nnone", 42)):
            with self.subTest(text=text[-60:]):
                self.assertEqual(told_of_office(text), (None, line))
                self.assertEqual(office_by_words(text), (None, line))

    def test_seventeen_plans(self):
        lines = ["office"] + [f"come {label}" for label in range(16)]
        self.assertEqual(len(read_office("\n".join(lines)).book()), 16)
        self.assertEqual(told_of_office("\n".join(lines + ["come 16"])), (None, 18))
        self.assertEqual(len(read_office("\n".join(lines + ["leave 0", "come 16"])).book()), 16)

    def test_a_long_text(self):
        text = "office\ncome 0 0-0" + "\nput 0 0-0\ntake_off 0" * 1000
        office = read_office(text)
        self.assertEqual(len(office), 2001)
        self.assertEqual(office_text(office), text)

    def test_calls(self):
        office = hand()
        text = office_text(office)
        self.assertEqual(office_text(office=office), text)
        self.assertEqual(everything(read_office(text=text)), everything(office))
        no_offices = [thing for thing in ODD if not isinstance(thing, Office)]
        for thing in no_offices + [(), {}, 0, office.log(), office.book(), text]:
            for call in (lambda: office_text(thing), lambda: office_text(office=thing)):
                with self.assertRaises(BadOffice):
                    call()
        for thing in NO_TEXTS + [office]:
            self.assertEqual(told_of_office(thing), (None, None))
            self.assertEqual(told_of_book(thing), (None, None))
        office.undo()
        found = read_office(office_text(office))
        found.come(0, ())
        self.assertEqual(len(office), 3)
        self.assertIs(read_office(text) == read_office(text), True)


if __name__ == "__main__":
    unittest.main()
