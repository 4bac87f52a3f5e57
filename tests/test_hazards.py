"""hazards: rounds in which it matters whether places read what was there or what is there already."""

import itertools
import random
import unittest

from joinrounds.books import Book
from joinrounds.errors import NotABook, UnknownPlan
from joinrounds.hazards import hazards
from tests.model import GROUPS, model_hazards, some_books
from tests.samples import (BAD_NAMES, BOTH_TEXT, CLASSES, GOOD_NAMES, NO_STRINGS, THREE, UP, plain_clauses, plan)

NO_BOOKS = NO_STRINGS + ("", "up", UP, (UP,), [UP], BOTH_TEXT, Book, Book((UP,)).plans)
MOST = 30


def model_first(text):
    """The pair of the least length with a hazard and the least hazard there, None if there is none up to MOST."""
    if "call" in text:
        return None
    return next(((size, model_hazards(text, size)[0]) for size in range(1, MOST + 1) if model_hazards(text, size)), None)


class HazardsTest(unittest.TestCase):

    def check(self, text, first):
        told_of = () if first is None else ((0, *first),)
        self.assertEqual(hazards(Book((plan("up", rounds=(text,)),)), "up"), told_of)
        # The goal and the base are of no account, nor are the rounds ahead and behind.
        rounds = ("clear 0 of 1", "call up on 1 of 2", text, "clear 0 of 1")
        told_of = () if first is None else ((2, *first),)
        self.assertEqual(hazards(Book((THREE, plan("up", "last 3", 4, rounds))), "up"), told_of)

    def test_rounds_without_any(self):
        for text in ("join 0 of 2 left 1", "join 1 of 2 left 1", "join 1 of 2 right 3", "take 0 of 2 left 3",
                     "take 0 of 3 right 1", "take 2 of 3 left 4", "join 2 of 3 left 2", "clear 0 of 1", "clear 1 of 3",
                     "clear 0 of 2; clear 1 of 2", "join 0 of 3 left 1; join 1 of 3 left 2",
                     "join 1 of 3 left 1; take 2 of 3 left 2", "clear 0 of 3; join 1 of 3 left 2", "join 0 of 2 right 1"):
            with self.subTest(text=text):
                self.check(text, None)

    def test_joins_of_all_places(self):
        for far in (1, 2, 3, 4):
            self.check(f"join 0 of 1 left {far}", (2 * far + 1, far))
            self.check(f"join 0 of 1 right {far}", (2 * far + 1, far))

    def test_takes_of_all_places(self):
        # Unlike a join, a take does something where it has no place to read from.
        for far in (1, 2, 3, 4):
            self.check(f"take 0 of 1 left {far}", (far + 1, 0))
            self.check(f"take 0 of 1 right {far}", (far + 1, far))

    def test_a_place_at_which_a_clause_has_no_place_to_read_from(self):
        self.check("join 0 of 2 left 2", (5, 2))
        self.check("take 0 of 2 left 2", (3, 0))
        self.check("join 0 of 2 left 4", (9, 4))
        self.check("take 0 of 2 left 4", (5, 0))
        self.check("join 1 of 2 right 2", (6, 3))
        self.check("take 1 of 2 right 2", (4, 3))
        self.check("join 1 of 2 right 4", (10, 5))
        self.check("join 0 of 3 left 1; take 2 of 3 right 1", (4, 2))
        self.check("join 0 of 3 left 1; join 2 of 3 right 1", (4, 2))
        self.check("join 0 of 3 left 3; clear 1 of 3", (7, 3))

    def test_clears_that_are_read_by_others(self):
        self.check("clear 0 of 2; join 1 of 2 left 1", (2, 0))
        self.check("clear 0 of 2; join 1 of 2 right 1", (3, 2))
        self.check("clear 1 of 2; take 0 of 2 left 3", (5, 1))
        self.check("take 0 of 2 right 3; clear 1 of 2", (4, 3))
        self.check("clear 2 of 3; take 0 of 3 left 4", (7, 2))
        self.check("clear 0 of 3; join 1 of 3 left 1; join 2 of 3 left 1", (2, 0))
        self.check("clear 0 of 3; join 1 of 3 left 2; join 2 of 3 left 2", (3, 0))
        self.check("clear 0 of 3; join 2 of 3 left 1", None)

    def test_what_only_a_longer_row_shows(self):
        self.check("join 0 of 3 left 4; join 1 of 3 left 4", (11, 6))
        self.check("join 0 of 3 left 4; take 1 of 3 left 4", (11, 6))
        self.check("join 2 of 3 left 4; join 1 of 3 left 4", (9, 4))
        self.check("join 1 of 3 left 3", (8, 4))
        self.check("join 2 of 3 right 3", (9, 5))
        self.check("join 1 of 2 left 4", (10, 5))

    def test_the_least_place_of_several(self):
        self.check("take 0 of 2 right 1; take 1 of 2 left 1", (2, 0))
        self.check("join 0 of 2 right 1; join 1 of 2 left 1", (2, 0))
        self.check("join 1 of 2 left 1; join 0 of 2 right 1", (2, 0))
        self.check("take 1 of 3 right 1; take 2 of 3 left 1", (3, 1))

    def test_whether_words_become_others_does_not_matter(self):
        for text in ("clear 0 of 1", "take 0 of 1 left 4"):
            rounds = ("clear 0 of 1", "take 0 of 2 left 2; clear 1 of 2", "clear 0 of 1")
            self.assertEqual(hazards(Book((plan(rounds=(text, *rounds)),)), "up")[-1], (2, 3, 0))

    def test_rounds_with_calls_have_none(self):
        for text in ("call up on 1 of 2", "call up on 0 of 2; call up on 1 of 2", "call up on 2 of 3; call up on 0 of 3"):
            with self.subTest(text=text):
                self.check(text, None)
        self.assertEqual(hazards(Book((plan("a", rounds=("call b on 0 of 1",)), plan("b"))), "a"), ())

    def test_hazards_of_called_plans_are_not_told(self):
        book = Book((plan("a", rounds=("join 0 of 2 left 1", "call b on 1 of 2")), plan("b")))
        self.assertEqual(hazards(book, "a"), ())
        self.assertEqual(hazards(book, "b"), ((0, 3, 1),))

    def test_each_round_that_has_one_ascending(self):
        rounds = ("join 0 of 1 left 4", "clear 0 of 1", "take 0 of 1 left 1", "call up on 1 of 2", "join 0 of 1 left 1")
        found = hazards(Book((plan(rounds=rounds),)), "up")
        self.assertEqual(found, ((0, 9, 4), (2, 2, 0), (4, 3, 1)))
        self.assertEqual([type(found), *map(type, found)], [tuple] * 4)
        rounds = ("join 0 of 1 left 1",) * 5
        self.assertEqual(hazards(Book((plan(rounds=rounds),)), "up"), tuple((index, 3, 1) for index in range(5)))

    def test_like_the_model_for_each_round_of_one_or_two_clauses(self):
        clauses = {kind: list(plain_clauses(kind)) for kind in CLASSES}
        rounds = ["; ".join(parts) for kinds in GROUPS if len(kinds) < 3
                  for parts in itertools.product(*(clauses[kind] for kind in kinds))]
        firsts = {}
        for some in (rounds[at:at + 5] for at in range(0, len(rounds), 5)):
            with self.subTest(some=some):
                right = [model_first(text) for text in some]
                told_of = tuple((index, *first) for index, first in enumerate(right) if first is not None)
                self.assertEqual(hazards(Book((plan(rounds=tuple(some)),)), "up"), told_of)
                firsts.update(zip(some, right))
        self.assertEqual(max(first[0] for first in firsts.values() if first), 11)
        self.assertGreater(list(firsts.values()).count(None), 300)

    def test_like_the_model_for_rounds_of_three_clauses(self):
        chance = random.Random(31)
        for kinds in [kinds for kinds in GROUPS if len(kinds) == 3]:
            for again in range(60):
                text = "; ".join(chance.choice(list(plain_clauses(kind))) for kind in kinds)
                with self.subTest(text=text):
                    self.check(text, model_first(text))

    def test_a_round_that_is_not_told_has_none_at_any_length(self):
        chance = random.Random(32)
        for again in range(300):
            kinds = chance.choice(GROUPS)
            text = "; ".join(chance.choice(list(plain_clauses(kind))) for kind in kinds)
            if hazards(Book((plan(rounds=(text,)),)), "up") == ():
                with self.subTest(text=text):
                    self.assertEqual([model_hazards(text, size) for size in (31, 36, 59, 100, 101, 150)], [[]] * 6)


class ArgumentsTest(unittest.TestCase):

    def setUp(self):
        self.book = Book((UP, THREE))

    def check_raised(self, error, given, *arguments):
        with self.assertRaises(error) as held:
            hazards(*arguments)
        self.assertIs(type(held.exception), error)
        self.assertIs(held.exception.given, given)

    def test_by_name(self):
        for name in ("up", "three"):
            self.assertEqual(hazards(name=name, book=self.book), hazards(self.book, name))

    def test_no_books(self):
        for given in NO_BOOKS:
            with self.subTest(given=given):
                self.check_raised(NotABook, given, given, "up")
                self.check_raised(NotABook, given, given, None)

    def test_no_names_of_plans_of_the_book(self):
        for given in NO_STRINGS + BAD_NAMES + GOOD_NAMES + ("u", "upp", UP, self.book, ("up",)):
            with self.subTest(given=given):
                self.check_raised(UnknownPlan, given, self.book, given)

    def test_calls_change_nothing_and_return_the_same_again(self):
        for book in some_books(seed=33, many=30, calls=2):
            text, plans = str(book), book.plans
            for name in book.names:
                first = hazards(book, name)
                self.assertEqual(hazards(book, name), first)
                self.assertEqual(hazards(Book.read(text), name), first)
            self.assertEqual(str(book), text)
            self.assertIs(book.plans, plans)

    def test_defined_where_it_is_listed(self):
        self.assertEqual(hazards.__module__, "joinrounds.hazards")


if __name__ == "__main__":
    unittest.main()
