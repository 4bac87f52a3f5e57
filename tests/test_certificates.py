"""Claims for the checker and their certificates."""

import itertools
import unittest
from unittest import mock

from joinrounds import certificates
from joinrounds.books import Book
from joinrounds.certificates import certify_differs, certify_hazard, certify_holds, certify_wrong
from joinrounds.checker import accepts
from joinrounds.errors import InvalidCount, TooLong
from joinrounds.hazards import hazards
from joinrounds.levels import level
from joinrounds.rows import Row
from joinrounds.verdicts import wrong_at
from tests.model import growing_books, model_level, model_words, model_wrong, some_books, told
from tests.samples import BOTH_TEXT, NO_INTEGERS, SOUND_TEXTS, THREE, UP, WRONG_TEXTS, late_text, plan

LETTERS = tuple("abcdefghijkl")
GROW = Book((plan("grow", "all", 1, ("join 0 of 1 left 1",) + ("call low on 0 of 1",) * 3 + ("clear 0 of 1",)),
             plan("low", "all", 1, ("join 0 of 2 right 1; join 1 of 2 left 1",) * 5)))


class CertificatesCase(unittest.TestCase):

    def setUp(self):
        self.book = Book((UP, THREE))

    def check(self, found, claim, certificate):
        self.assertEqual(found, (claim, certificate))
        self.assertEqual(repr(found), repr((claim, certificate)))
        self.assertIs(accepts(*found), True)


class HoldsTest(CertificatesCase):

    def test_where_the_plan_holds(self):
        self.check(certify_holds(self.book, "up", 3), ("holds", BOTH_TEXT, "up", 3),
                   (((0, 1), (1, 2), (2, 3)), ((0, 1), (0, 2), (2, 3)), ((0, 1), (0, 2), (2, 3)), ((0, 1), (0, 2), (0, 3))))
        self.check(certify_holds(size=100, name="up", book=self.book), ("holds", BOTH_TEXT, "up", 100), model_level(self.book, "up", 100))

    def test_where_it_does_not(self):
        for size in (3, 4, 50, 100):
            self.assertIsNone(certify_holds(self.book, "three", size))

    def test_up_to_the_base(self):
        for size in (1, 2):
            self.check(certify_holds(self.book, "three", size), ("holds", BOTH_TEXT, "three", size), level(self.book, "three", size))
        book = Book((plan("a", "all", 4, ("clear 0 of 1",)),))
        self.check(certify_holds(book, "a", 4), ("holds", str(book), "a", 4), model_level(book, "a", 4))
        self.assertIsNone(certify_holds(book, "a", 5))

    def test_whether_the_plans_that_it_uses_hold_does_not_matter(self):
        book = Book((plan("top", "all", 1, ("call low on 0 of 1",)), plan("low", "all", 1, ("clear 0 of 1",))))
        self.check(certify_holds(book, "top", 2), ("holds", str(book), "top", 2), model_level(book, "top", 2))

    def test_lengths(self):
        for size in NO_INTEGERS + (0, -1, 101, 102, 10 ** 12, 10 ** 39):
            for name in ("up", "three"):
                with self.assertRaises(InvalidCount) as held:
                    certify_holds(self.book, name, size)
                self.assertIs(held.exception.given, size)

    def test_for_many_books(self):
        for book in some_books(seed=101, many=40):
            for name, size in itertools.product(book.names, (1, 2, 4, 9)):
                found = certify_holds(book, name, size)
                if model_wrong(book, name, size) is None:
                    self.check(found, ("holds", str(book), name, size), model_level(book, name, size))
                else:
                    self.assertIsNone(found)


class WrongTest(CertificatesCase):

    def test_what_wrong_at_tells(self):
        self.check(certify_wrong(self.book, "three"), ("wrong", BOTH_TEXT, "three", 3, 1),
                   (((0, 1), (1, 2), (2, 3)), ((0, 1), (0, 2), (1, 3)), ((0, 1), None, None)))
        for text, told_of in WRONG_TEXTS:
            book = Book.read(text)
            self.check(certify_wrong(name=book.names[0], book=book), ("wrong", text, *told_of), model_level(book, *told_of[:2]))

    def test_sound_plans(self):
        for text in SOUND_TEXTS:
            book = Book.read(text)
            for name in book.names:
                self.assertIsNone(certify_wrong(book, name))

    def test_another_plan_that_it_uses(self):
        book = Book((plan("top", "all", 1, ("call low on 0 of 1",)), plan("low", "all", 1, ("clear 0 of 1",))))
        self.check(certify_wrong(book, "top"), ("wrong", str(book), "low", 2, 0), model_level(book, "low", 2))

    def test_lengths_up_to_a_hundred(self):
        # No plan is known that first goes wrong so late, so what wrong_at tells is put in its place.
        for size in (16, 99, 100, 101, 102, 10 ** 6):
            with mock.patch.object(certificates, "wrong_at", lambda book, name: ("three", size, 1)):
                found = certify_wrong(self.book, "up")
            if size > 100:
                self.assertIsNone(found)
            else:
                self.check(found, ("wrong", BOTH_TEXT, "three", size, 1), model_level(self.book, "three", size))

    def test_for_many_books(self):
        for book in some_books(seed=102, many=100, calls=3) + [Book.read(late_text(kind)) for kind in (0, 1, 2)]:
            for name in book.names:
                wrong, found = wrong_at(book, name), certify_wrong(book, name)
                if wrong is None:
                    self.assertIsNone(found)
                else:
                    self.check(found, ("wrong", str(book), *wrong), model_level(book, *wrong[:2]))


class HazardTest(CertificatesCase):

    def test_the_first_triple(self):
        self.assertIsNone(certify_hazard(self.book, "up"))
        self.check(certify_hazard(self.book, "three"), ("hazard", BOTH_TEXT, "three", 3, 1), 0)
        book = Book((plan("h", "all", 1, ("clear 0 of 1", "call h on 1 of 2", "take 0 of 2 left 1", "take 0 of 1 right 1", "join 0 of 1 left 4")),))
        self.check(certify_hazard(name="h", book=book), ("hazard", str(book), "h", 2, 1), 3)

    def test_for_many_books(self):
        seen = 0
        for book in some_books(seed=103, many=150, calls=4):
            for name in book.names:
                triples, found = hazards(book, name), certify_hazard(book, name)
                if not triples:
                    self.assertIsNone(found)
                    seen += 1
                else:
                    index, size, place = triples[0]
                    self.check(found, ("hazard", str(book), name, size, place), index)
        self.assertGreater(seen, 30)


class DiffersTest(CertificatesCase):

    def test_the_least_wrong_place(self):
        self.check(certify_differs(self.book, "three", 3), ("differs", BOTH_TEXT, "three", ("a", "b", "c")), 1)
        self.check(certify_differs(size=12, name="three", book=self.book), ("differs", BOTH_TEXT, "three", LETTERS), 1)
        book = Book((plan("a", "all", 1, ("join 0 of 1 left 1",)),))
        self.check(certify_differs(book, "a", 7), ("differs", str(book), "a", LETTERS[:7]), 2)
        self.assertIsNone(certify_differs(book, "a", 2))

    def test_rows_that_end_right(self):
        for text in SOUND_TEXTS:
            book = Book.read(text)
            for name, size in itertools.product(book.names, range(1, 13)):
                self.assertIsNone(certify_differs(book, name, size))
        for size in (1, 2):
            self.assertIsNone(certify_differs(self.book, "three", size))

    def test_a_plan_that_holds_over_a_wrong_one(self):
        # Here the rows are led, other than in levels.
        book = Book((plan("top", "all", 1, ("call low on 0 of 1",)), plan("low", "all", 1, ("clear 0 of 1",))))
        self.check(certify_differs(book, "top", 2), ("differs", str(book), "top", ("a", "b")), 0)
        self.assertIsNotNone(certify_holds(book, "top", 2))

    def test_lengths(self):
        for size in NO_INTEGERS + (0, -1, 13, 14, 100, 10 ** 12, 10 ** 39):
            for book, name in ((self.book, "up"), (self.book, "three"), (GROW, "grow")):
                with self.assertRaises(InvalidCount) as held:
                    certify_differs(book, name, size)
                self.assertIs(held.exception.given, size)

    def test_too_long(self):
        for size in (2, 3, 12):
            with self.assertRaises(TooLong) as held:
                certify_differs(GROW, "grow", size)
            self.assertEqual(held.exception.most, 1000)
        self.assertIsNone(certify_differs(GROW, "grow", 1))

    def test_for_many_books(self):
        seen = {}
        for book in [*some_books(seed=104, many=80), *growing_books(seed=105, many=40), *map(Book.read, SOUND_TEXTS)]:
            for name, size in itertools.product(book.names[:2], (1, 3, 7, 12)):
                words = model_words(book, name, LETTERS[:size])[-1]
                due = told(book.plan(name)[1], LETTERS[:size], "".join)
                wrong = None if words is None else next((place for place in range(size) if words[place] != due[place]), None)
                kind = "long" if words is None else "right" if wrong is None else "wrong"
                seen[kind] = seen.get(kind, 0) + 1
                if words is None:
                    with self.assertRaises(TooLong):
                        certify_differs(book, name, size)
                elif wrong is None:
                    self.assertIsNone(certify_differs(book, name, size))
                else:
                    self.check(certify_differs(book, name, size), ("differs", str(book), name, LETTERS[:size]), wrong)
                    self.assertNotEqual(Row(book, name, LETTERS[:size]).last().words, tuple(due))
        self.assertTrue(min(seen.values()) > 20 and len(seen) == 3, seen)


class ObjectsTest(CertificatesCase):

    def test_defined_where_they_are_listed(self):
        for call in (certify_holds, certify_wrong, certify_hazard, certify_differs):
            self.assertEqual(call.__module__, "joinrounds.certificates")

    def test_calls_change_nothing_and_return_the_same_again(self):
        for book in some_books(seed=106, many=20):
            text = str(book)
            for name in book.names:
                calls = (lambda: certify_holds(book, name, 2), lambda: certify_wrong(book, name), lambda: certify_hazard(book, name),
                         lambda: certify_differs(book, name, 2))
                for call in calls:
                    self.assertEqual(call(), call())
            self.assertEqual(str(book), text)


if __name__ == "__main__":
    unittest.main()
