"""The errors of book, name and size, for all functions and classes that take them, and where all of these are defined."""

import importlib
import inspect
import itertools
import unittest

from joinrounds import errors
from joinrounds.books import Book
from joinrounds.certificates import certify_differs, certify_hazard, certify_holds, certify_wrong
from joinrounds.console import Console
from joinrounds.counts import joins, rounds
from joinrounds.desks import Desk
from joinrounds.errors import InvalidCount, InvalidPieces, NotABook, UnknownPlan
from joinrounds.hazards import hazards
from joinrounds.levels import holds, level
from joinrounds.mending import idle, mends
from joinrounds.rows import Row
from joinrounds.verdicts import is_sound, uses, wrong_at
from tests.samples import BAD_NAMES, BOTH_TEXT, GOOD_NAMES, NO_INTEGERS, NO_STRINGS, THREE, UP

BOOK = Book((UP, THREE))
NO_BOOKS = NO_STRINGS + ("", "up", UP, (UP,), [UP], BOTH_TEXT, Book, BOOK.plans, ValueError("up"), Desk(BOOK), Console(BOOK))
NO_PLANS = NO_STRINGS + BAD_NAMES + GOOD_NAMES + ("u", "upp", UP, BOOK, ("up",))
# What takes a book and a name; what takes a size as well, with the greatest one.
NAMED = (uses, wrong_at, is_sound, hazards, idle, mends, certify_wrong, certify_hazard)
SIZED = ((level, 100), (holds, 100), (joins, 10 ** 12), (rounds, 10 ** 12), (certify_holds, 100), (certify_differs, 12))
# The interface as the document lists it.
LISTED = {
    "books": ("Book",), "levels": ("level", "holds"), "verdicts": ("uses", "wrong_at", "is_sound"), "hazards": ("hazards",),
    "counts": ("joins", "rounds"), "mending": ("idle", "mends"), "rows": ("Row",), "desks": ("Desk",), "checker": ("accepts",),
    "certificates": ("certify_holds", "certify_wrong", "certify_hazard", "certify_differs"), "console": ("Console",),
    "errors": ("NotRight", "InvalidText", "InvalidCount", "InvalidPlace", "InvalidClaim", "NotABook", "InvalidPlans", "InvalidPieces",
               "NotThere", "UnknownPlan", "CannotBe", "TooLong", "IsOver", "NothingToUndo", "Broken"),
}
METHODS = {
    "Book": ("read", "plans", "names", "plan", "changed", "__eq__", "__str__", "__repr__"),
    "Row": ("book", "name", "words", "done", "is_over", "due", "after", "last", "__eq__", "__repr__"),
    "Desk": ("book", "claims", "changes", "change", "claim", "lift", "undo", "trial", "tried"), "Console": ("say",),
}
PARAMETERS = {
    "level": "book name size", "holds": "book name size", "uses": "book name", "wrong_at": "book name", "is_sound": "book name",
    "hazards": "book name", "joins": "book name size", "rounds": "book name size", "idle": "book name", "mends": "book name",
    "accepts": "claim certificate", "certify_holds": "book name size", "certify_wrong": "book name", "certify_hazard": "book name",
    "certify_differs": "book name size", "Book": "plans", "Row": "book name pieces", "Desk": "book", "Console": "book",
}


class ArgumentsTest(unittest.TestCase):

    def check_raised(self, error, given, call, *arguments):
        """The error is raised for these arguments, by position and by name."""
        names = list(inspect.signature(call).parameters)
        self.assertEqual(len(names), len(arguments))
        named = dict(reversed(list(zip(names, arguments))))
        for made in (lambda: call(*arguments), lambda: call(**named), lambda: call(arguments[0], **dict(list(named.items())[:-1]))):
            with self.assertRaises(error) as held:
                made()
            self.assertIs(type(held.exception), error)
            self.assertIs(held.exception.given, given)

    def test_no_books(self):
        for given in NO_BOOKS:
            with self.subTest(given=given):
                for call in NAMED:
                    for name in ("up", "no", None):
                        self.check_raised(NotABook, given, call, given, name)
                for call, most in SIZED:
                    for name, size in itertools.product(("up", None), (1, 0, most + 1, None)):
                        self.check_raised(NotABook, given, call, given, name, size)
                self.check_raised(NotABook, given, Row, given, None, None)
                for call in (Desk, Console, Desk(BOOK).change):
                    with self.assertRaises(NotABook) as held:
                        call(book=given)
                    self.assertIs(held.exception.given, given)

    def test_no_plans(self):
        for given in NO_PLANS:
            with self.subTest(given=given):
                for call in NAMED:
                    self.check_raised(UnknownPlan, given, call, BOOK, given)
                for call, most in SIZED:
                    for size in (1, 0, most + 1, None):
                        self.check_raised(UnknownPlan, given, call, BOOK, given, size)
                self.check_raised(UnknownPlan, given, Row, BOOK, given, None)

    def test_no_lengths(self):
        for call, most in SIZED:
            for given in NO_INTEGERS + (0, -1, -most, most + 1, 10 * most, 10 ** 39, -10 ** 39):
                with self.subTest(call=call, given=given):
                    for name in ("up", "three"):
                        self.check_raised(InvalidCount, given, call, BOOK, name, given)

    def test_no_pieces_come_last(self):
        with self.assertRaises(InvalidPieces) as held:
            Row(BOOK, "up", None)
        self.assertIsNone(held.exception.index)

    def test_what_is_right_raises_nothing(self):
        for name in ("up", "three"):
            for call in NAMED:
                self.assertEqual(call(BOOK, name), call(name=name, book=BOOK))
            for call, most in SIZED:
                for size in (1, 2, 3, most - 1, most):
                    self.assertEqual(call(BOOK, name, size), call(size=size, name=name, book=BOOK))
            for size in (1, 12):
                Row(BOOK, name, ("abcd",) * size)
        Desk(BOOK).change(BOOK)
        Console(BOOK).say("show")

    def test_errors_are_of_the_one_base_class_under_which_they_are_listed(self):
        bases = {errors.NotRight: ValueError, errors.NotThere: LookupError, errors.CannotBe: ArithmeticError}
        for error, base in bases.items():
            self.assertEqual(error.__bases__, (base,))
        for name in LISTED["errors"]:
            error = getattr(errors, name)
            if error not in bases:
                self.assertEqual((len(error.__bases__), error.__bases__[0] in bases), (1, True))


class InterfaceTest(unittest.TestCase):

    def test_everything_listed_is_defined_where_it_is_listed(self):
        for module, names in LISTED.items():
            held = importlib.import_module(f"joinrounds.{module}")
            for name in names:
                self.assertEqual(getattr(held, name).__module__, f"joinrounds.{module}")
                for method in METHODS.get(name, ()):
                    self.assertIn(method, vars(getattr(held, name)))

    def test_parameters_have_their_names(self):
        for module, names in LISTED.items():
            for name in names:
                if name in PARAMETERS:
                    call = getattr(importlib.import_module(f"joinrounds.{module}"), name)
                    self.assertEqual(list(inspect.signature(call).parameters), PARAMETERS[name].split(" "))
        methods = ((Desk.change, "book"), (Desk.claim, "claim"), (Desk.lift, "index"), (Desk.tried, "action"), (Console.say, "line"),
                   (Book.plan, "name"), (Book.changed, "name index text"), (Desk.undo, ""), (Desk.trial, ""), (Row.after, ""), (Row.last, ""))
        for method, names in methods:
            self.assertEqual(list(inspect.signature(method).parameters), ["self", *names.split()])
        self.assertEqual(list(inspect.signature(Book.read).parameters), ["text"])


if __name__ == "__main__":
    unittest.main()
