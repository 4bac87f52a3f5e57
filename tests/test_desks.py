"""Desk: a book with claims that hold after each change, what can be taken back, and trials."""

import random
import unittest
from unittest import mock

from joinrounds.books import Book
from joinrounds.counts import joins
from joinrounds.desks import Desk
from joinrounds.errors import (Broken, InvalidClaim, InvalidPlace, InvalidText, NotABook, NothingToUndo, TooLong,
                               UnknownPlan)
from joinrounds.hazards import hazards
from joinrounds.rows import Row
from joinrounds.verdicts import wrong_at
from tests.model import model_counts, model_hazards, model_wrong, some_books
from tests.samples import BAD_NAMES, BOTH_TEXT, GOOD_NAMES, NO_INTEGERS, NO_STRINGS, SOUND_TEXTS, THREE, UP, plan

NO_BOOKS = NO_STRINGS + ("", "up", UP, (UP,), [UP], BOTH_TEXT, Book, Book((UP,)).plans, ValueError("up"))
MOST = 10 ** 12
SOUND = ("sound", "up")
FREE = ("order free", "up")
JOINS = ("joins", "up", 8, 11)
ROUNDS = ("rounds", "up", 8, 6)
FOUR = (SOUND, FREE, JOINS, ROUNDS)
BAD_CLAIMS = NO_STRINGS + (
    "sound", "sound up", ["sound", "up"], {"sound": "up"}, ("sound",), ("sound", "up", 1), ("sound", "up", 1, 1),
    ("sound", "up", None), (("sound", "up"),), ("Sound", "up"), ("sound ", "up"), ("", "up"), ("orderfree", "up"),
    ("order free",), ("order", "free", "up"), ("order free", "up", 1), ("order  free", "up"), ("holds", "up"),
    ("joins",), ("joins", "up"), ("joins", "up", 8), ("joins", "up", 8, 11, 1), ("joins", ("up", 8, 11)),
    ("rounds",), ("rounds", "up"), ("rounds", "up", 8), ("rounds", "up", 8, 6, 1), ("round", "up", 8, 6),
    ("join", "up", 8, 11), ("wrong", "up", 8, 1), ("up", "sound"), ("up", "joins", 8, 11), (b"sound", "up"),
    (["sound"], "up"), (None, "up"), (("sound",), "up"), (True, "up"), (1, "up", 8, 11), (mock.ANY, "up"),
    (mock.ANY, "up", 8, 11), (mock.ANY,) * 2, (mock.ANY,) * 4)


def worse():
    """A book in which all that FOUR claims is otherwise."""
    return Book((plan("up", "all", 1, ("join 0 of 1 left 1",) * 5),))


class DeskCase(unittest.TestCase):

    def setUp(self):
        self.book = Book((UP, THREE))
        self.desk = Desk(self.book)

    def check(self, book, claims, changes, desk=None):
        desk = self.desk if desk is None else desk
        self.assertIs(type(desk.book), Book)
        self.assertEqual((desk.book, desk.claims, desk.changes), (book, tuple(claims), changes))
        self.assertEqual((type(desk.claims), type(desk.changes)), (tuple, int))
        self.assertIs(bool(desk), True)

    def check_raised(self, error, call, *arguments, **attributes):
        """The error is raised with these attributes, and nothing is otherwise then."""
        before = (self.desk.book, self.desk.claims, self.desk.changes)
        with self.assertRaises(error) as held:
            call(*arguments)
        self.assertIs(type(held.exception), error)
        for name, value in attributes.items():
            self.assertEqual(getattr(held.exception, name), value)
            self.assertIs(type(getattr(held.exception, name)), type(value))
        self.assertEqual((self.desk.book, self.desk.claims, self.desk.changes), before)
        return held.exception


class DeedsTest(DeskCase):

    def test_at_first(self):
        self.check(self.book, (), 0)
        self.assertIs(Desk(book=self.book).book, self.book)
        self.check_raised(NothingToUndo, self.desk.undo)

    def test_no_books(self):
        for given in NO_BOOKS:
            with self.subTest(given=given):
                for call in (Desk, self.desk.change):
                    self.assertIs(self.check_raised(NotABook, call, given).given, given)

    def test_changes(self):
        other = Book((THREE,))
        self.assertIsNone(self.desk.change(other))
        self.check(other, (), 1)
        self.assertIsNone(self.desk.change(book=self.book))
        self.check(self.book, (), 2)
        self.assertIsNone(self.desk.change(self.book))
        self.check(self.book, (), 3)

    def test_claims_of_each_word(self):
        for many, claim in enumerate(FOUR, 1):
            self.assertIsNone(self.desk.claim(claim))
            self.check(self.book, FOUR[:many], many)
        self.assertIsNone(self.desk.claim(claim=("joins", "three", 2, 1)))
        self.check(self.book, FOUR + (("joins", "three", 2, 1),), 5)

    def test_the_same_claim_twice(self):
        self.desk.claim(SOUND)
        self.desk.claim(SOUND)
        self.check(self.book, (SOUND, SOUND), 2)
        self.desk.lift(0)
        self.check(self.book, (SOUND,), 3)

    def test_numbers_at_the_bounds(self):
        for claim in (("joins", "up", 1, 0), ("rounds", "up", 1, 0), ("joins", "up", MOST, 10 ** 39),
                      ("rounds", "up", MOST, 78), ("rounds", "up", MOST, 2 * MOST), ("joins", "up", 2 ** 39, 1099511627735)):
            self.desk.claim(claim)
            self.assertEqual(self.desk.claims[-1], claim)

    def test_lifting(self):
        for claim in FOUR:
            self.desk.claim(claim)
        self.assertIsNone(self.desk.lift(2))
        self.check(self.book, (SOUND, FREE, ROUNDS), 5)
        self.assertIsNone(self.desk.lift(index=0))
        self.check(self.book, (FREE, ROUNDS), 6)
        self.desk.lift(1)
        self.check(self.book, (FREE,), 7)
        self.desk.lift(0)
        self.check(self.book, (), 8)
        self.check_raised(InvalidPlace, self.desk.lift, 0, given=0)

    def test_lifting_what_is_not_there(self):
        for many in (0, 1, 2):
            for given in NO_INTEGERS + (-1, -2, 2, 3, 10 ** 39, -10 ** 39):
                with self.subTest(many=many, given=given):
                    self.assertIs(self.check_raised(InvalidPlace, self.desk.lift, given).given, given)
            self.check_raised(InvalidPlace, self.desk.lift, many, given=many)
            self.desk.claim(SOUND)

    def test_a_claim_that_is_lifted_is_not_asked(self):
        self.desk.claim(SOUND)
        self.desk.lift(0)
        self.desk.change(worse())
        self.check(worse(), (), 3)

    def test_what_is_no_claim(self):
        for given in BAD_CLAIMS:
            with self.subTest(given=given):
                self.assertIs(self.check_raised(InvalidClaim, self.desk.claim, given).given, given)

    def test_numbers_that_are_none(self):
        for word in ("joins", "rounds"):
            for given in NO_INTEGERS:
                for claim in ((word, "up", given, 10 ** 15), (word, "up", 1, given), (word, None, given, 1), (word, None, 1, given)):
                    with self.subTest(claim=claim):
                        self.assertIs(self.check_raised(InvalidClaim, self.desk.claim, claim).given, claim)
            for size in (0, -1, -8, MOST + 1, 10 ** 39, -10 ** 39):
                self.check_raised(InvalidClaim, self.desk.claim, (word, "up", size, 10 ** 15), given=(word, "up", size, 10 ** 15))
                self.check_raised(InvalidClaim, self.desk.claim, (word, "no", size, 1), given=(word, "no", size, 1))
            for most in (-1, -2, -10 ** 39):
                self.check_raised(InvalidClaim, self.desk.claim, (word, "up", 1, most), given=(word, "up", 1, most))

    def test_names_of_no_plan(self):
        for given in NO_STRINGS + BAD_NAMES + GOOD_NAMES + ("u", "upp", UP, self.book, ("up",)):
            for claim in (("sound", given), ("order free", given), ("joins", given, 1, 0), ("rounds", given, MOST, 0)):
                with self.subTest(claim=claim):
                    self.assertIs(self.check_raised(UnknownPlan, self.desk.claim, claim).given, given)


class BrokenTest(DeskCase):

    def check_broken(self, index, shown, call, *arguments):
        self.check_raised(Broken, call, *arguments, index=index, shown=shown)

    def test_new_claims(self):
        shown = {("sound", "three"): ("three", 3, 1), ("order free", "three"): ((0, 3, 1), (1, 3, 1)),
                 ("joins", "up", 8, 10): 11, ("rounds", "up", 8, 5): 6, ("joins", "three", 2, 0): 1,
                 ("rounds", "up", 2 ** 39, 0): 78, ("joins", "up", 2 ** 39, 1099511627734): 1099511627735}
        for claims in ((), FOUR):
            for claim in claims:
                self.desk.claim(claim)
            for claim, told in shown.items():
                with self.subTest(claim=claim):
                    self.check_broken(len(claims), told, self.desk.claim, claim)

    def test_another_book(self):
        for claim, told in ((SOUND, ("up", 2, 1)), (FREE, tuple((index, 3, 1) for index in range(5))),
                            (("joins", "up", 8, 11), 35), (("joins", "up", 8, 34), 35), (("rounds", "up", 1, 0), None),
                            (("rounds", "up", 2, 4), 5), (("rounds", "up", 2 ** 39, 78), None)):
            desk = self.desk = Desk(self.book)
            desk.claim(claim)
            with self.subTest(claim=claim):
                if told is None:
                    desk.change(worse())
                else:
                    self.check_broken(0, told, desk.change, worse())

    def test_plans_that_are_gone(self):
        for claim in (*FOUR, ("sound", "three")):
            self.desk = Desk(Book((UP, plan("three"), plan("own", "last 1", 1, ("call own on 0 of 2",)))))
            self.desk.claim(("sound", "own"))
            if claim[1] == "up":
                self.desk.claim(claim)
                gone = Book((plan("down"), plan("own", "last 1", 1, ("call own on 0 of 2",))))
                self.check_broken(1, None, self.desk.change, gone)
            self.check_broken(0, None, self.desk.change, Book((UP,)))
            self.desk.lift(0)

    def test_the_first_one_of_several(self):
        for claim in FOUR:
            self.desk.claim(claim)
        bad = worse()
        self.check_broken(0, wrong_at(bad, "up"), self.desk.change, bad)
        self.desk.lift(0)
        self.check_broken(0, hazards(bad, "up"), self.desk.change, bad)
        self.desk.lift(0)
        self.check_broken(0, joins(bad, "up", 8), self.desk.change, bad)
        self.desk.lift(0)
        self.desk.change(bad)
        self.check(bad, (ROUNDS,), 8)

    def test_the_index_of_the_first_one(self):
        # Only the third one breaks, then the second and the fourth.
        self.desk.claim(ROUNDS)
        self.desk.claim(("rounds", "three", 4, 3))
        self.desk.claim(SOUND)
        self.desk.claim(("joins", "three", 4, 9))
        self.check_broken(2, ("up", 3, 2), self.desk.change, self.book.changed("up", 0, "join 0 of 1 left 1"))
        more = Book((UP, plan("three", "last 3", 2, ("join 0 of 1 left 1",) * 4)))
        self.check_broken(1, 4, self.desk.change, more)
        self.desk.lift(1)
        self.check_broken(2, 12, self.desk.change, more)

    def test_only_the_new_claim_is_asked_when_it_is_made(self):
        # The claims so far hold; that the new one does not is told with its own index.
        self.desk.claim(("joins", "three", 2, 1))
        self.check_broken(1, ("three", 3, 1), self.desk.claim, ("sound", "three"))
        self.check(self.book, (("joins", "three", 2, 1),), 1)

    def test_not_a_book_comes_before_broken_and_unknown_plan_too(self):
        self.desk.claim(SOUND)
        self.assertIsNone(self.check_raised(NotABook, self.desk.change, None).given)
        self.check_raised(UnknownPlan, self.desk.claim, ("sound", "no"), given="no")
        self.check_raised(InvalidClaim, self.desk.claim, ("joins", "no", 0, 1), given=("joins", "no", 0, 1))

    def test_a_plan_that_is_sound_uses_only_plans_that_hold(self):
        low = plan("low", "all", 1, ("clear 0 of 1",))
        book = Book((plan("top", "all", 1, ("call low on 0 of 1",)), low))
        self.desk = Desk(book)
        self.check_broken(0, ("low", 2, 0), self.desk.claim, ("sound", "top"))
        self.desk.claim(("order free", "top"))


class UndoTest(DeskCase):

    def test_changes_claims_and_liftings(self):
        other = Book((UP,))
        self.desk.claim(SOUND)
        self.desk.change(other)
        self.desk.lift(0)
        self.desk.claim(FREE)
        self.check(other, (FREE,), 4)
        self.assertIsNone(self.desk.undo())
        self.check(other, (), 3)
        self.desk.undo()
        self.check(other, (SOUND,), 2)
        self.desk.undo()
        self.check(self.book, (SOUND,), 1)
        self.desk.undo()
        self.check(self.book, (), 0)
        self.check_raised(NothingToUndo, self.desk.undo)
        self.check_raised(NothingToUndo, self.desk.undo)

    def test_changes_by_which_nothing_became_other_than_it_was(self):
        self.desk.claim(SOUND)
        for many in (2, 3):
            self.desk.change(Book((UP, THREE)))
            self.check(self.book, (SOUND,), many)
        for many in (2, 1):
            self.desk.undo()
            self.check(self.book, (SOUND,), many)
        self.desk.undo()
        self.check(self.book, (), 0)

    def test_what_is_done_after_taking_back(self):
        self.desk.claim(SOUND)
        self.desk.claim(FREE)
        self.desk.undo()
        self.desk.claim(ROUNDS)
        self.check(self.book, (SOUND, ROUNDS), 2)
        self.desk.undo()
        self.desk.undo()
        self.check(self.book, (), 0)

    def test_errors_are_nothing_that_can_be_taken_back(self):
        self.desk.claim(SOUND)
        for call, given in ((self.desk.change, worse()), (self.desk.change, None), (self.desk.claim, ("sound", "three")),
                            (self.desk.claim, None), (self.desk.lift, 1)):
            with self.assertRaises((Broken, NotABook, InvalidClaim, InvalidPlace)):
                call(given)
        self.check(self.book, (SOUND,), 1)

    def test_the_place_of_a_lifted_claim_comes_back(self):
        for claim in FOUR:
            self.desk.claim(claim)
        self.desk.lift(1)
        self.desk.undo()
        self.check(self.book, FOUR, 4)

    def test_many(self):
        for many in range(20000):
            self.desk.change(self.book)
        self.check(self.book, (), 20000)
        for many in range(20000):
            self.desk.undo()
        self.check_raised(NothingToUndo, self.desk.undo)


class TrialTest(DeskCase):

    def test_rows_that_end_well(self):
        with self.desk.trial() as desk:
            self.assertIs(desk, self.desk)
            desk.claim(SOUND)
            desk.change(Book((UP,)))
        self.check(Book((UP,)), (SOUND,), 2)
        self.desk.undo()
        self.check(self.book, (SOUND,), 1)

    def test_rows_that_end_with_an_exception(self):
        self.desk.claim(SOUND)
        for error in (KeyError("a"), Broken(0, None), KeyboardInterrupt(), GeneratorExit(), SystemExit(1), StopIteration()):
            with self.assertRaises(type(error)) as held:
                with self.desk.trial() as desk:
                    desk.claim(FREE)
                    desk.change(Book((UP,)))
                    desk.lift(0)
                    raise error
            self.assertIs(held.exception, error)
            self.check(self.book, (SOUND,), 1)

    def test_errors_of_the_desk(self):
        self.desk.claim(SOUND)
        with self.assertRaises(Broken) as held:
            with self.desk.trial() as desk:
                desk.lift(0)
                desk.claim(FREE)
                desk.change(worse())
        self.assertEqual((held.exception.index, held.exception.shown), (0, hazards(worse(), "up")))
        self.check(self.book, (SOUND,), 1)

    def test_what_was_taken_back_within_is_there_again(self):
        self.desk.claim(SOUND)
        self.desk.change(Book((UP,)))
        self.desk.claim(FREE)
        for deeds in ((), ("claim",), ("claim", "undo", "claim", "claim")):
            with self.assertRaises(NothingToUndo):
                with self.desk.trial() as desk:
                    desk.undo()
                    desk.undo()
                    for deed in deeds:
                        desk.claim(ROUNDS) if deed == "claim" else desk.undo()
                    while True:
                        desk.undo()
            self.check(Book((UP,)), (SOUND, FREE), 3)
        self.desk.undo()
        self.check(Book((UP,)), (SOUND,), 2)
        self.desk.undo()
        self.check(self.book, (SOUND,), 1)
        self.desk.undo()
        self.check(self.book, (), 0)

    def test_what_was_taken_back_within_rows_that_end_well(self):
        self.desk.claim(SOUND)
        with self.desk.trial() as desk:
            desk.undo()
        self.check(self.book, (), 0)

    def test_the_desk_as_it_was_when_the_rows_began(self):
        # Not as it was when the trial was made.
        trial = self.desk.trial()
        self.desk.claim(SOUND)
        with self.assertRaises(KeyError):
            with trial as desk:
                desk.claim(FREE)
                raise KeyError()
        self.check(self.book, (SOUND,), 1)

    def test_trials_within_trials(self):
        with self.desk.trial() as desk:
            desk.claim(SOUND)
            with self.assertRaises(ValueError):
                with desk.trial() as again:
                    self.assertIs(again, self.desk)
                    again.claim(FREE)
                    with again.trial():
                        again.claim(ROUNDS)
                    self.check(self.book, (SOUND, FREE, ROUNDS), 3)
                    raise ValueError()
            self.check(self.book, (SOUND,), 1)
            desk.claim(JOINS)
        self.check(self.book, (SOUND, JOINS), 2)

    def test_an_exception_that_passes_through_all_of_them(self):
        self.desk.claim(ROUNDS)
        with self.assertRaises(InvalidPlace):
            with self.desk.trial() as desk:
                desk.claim(SOUND)
                with desk.trial():
                    desk.claim(FREE)
                    with desk.trial():
                        desk.claim(JOINS)
                        desk.lift(4)
        self.check(self.book, (ROUNDS,), 1)

    def test_rows_within_that_ended_well_are_lost_with_those_around(self):
        with self.assertRaises(KeyError):
            with self.desk.trial() as desk:
                with desk.trial():
                    desk.claim(SOUND)
                raise KeyError()
        self.check(self.book, (), 0)

    def test_a_trial_used_again(self):
        trial = self.desk.trial()
        for claim in (SOUND, FREE):
            with trial as desk:
                desk.claim(claim)
            with self.assertRaises(KeyError):
                with trial as desk:
                    desk.claim(ROUNDS)
                    raise KeyError()
        self.check(self.book, (SOUND, FREE), 2)

    def test_a_trial_used_within_itself(self):
        trial = self.desk.trial()
        with trial as desk:
            desk.claim(SOUND)
            with self.assertRaises(KeyError):
                with trial as again:
                    self.assertIs(again, self.desk)
                    desk.claim(FREE)
                    with self.assertRaises(ValueError):
                        with trial:
                            desk.claim(JOINS)
                            raise ValueError()
                    self.check(self.book, (SOUND, FREE), 2)
                    with trial:
                        desk.claim(JOINS)
                    self.check(self.book, (SOUND, FREE, JOINS), 3)
                    raise KeyError()
            self.check(self.book, (SOUND,), 1)
        self.check(self.book, (SOUND,), 1)
        with self.assertRaises(KeyError):
            with trial, trial, trial:
                desk.claim(FREE)
                raise KeyError()
        self.check(self.book, (SOUND,), 1)

    def test_an_outer_use_brings_back_what_it_began_with(self):
        trial = self.desk.trial()
        with self.assertRaises(KeyError):
            with trial as desk:
                desk.claim(SOUND)
                with trial:
                    desk.claim(FREE)
                with self.assertRaises(ValueError):
                    with trial:
                        desk.undo()
                        raise ValueError()
                raise KeyError()
        self.check(self.book, (), 0)

    def test_what_trial_returns_equals_itself_alone(self):
        trial, other = self.desk.trial(), self.desk.trial()
        self.assertEqual([trial == trial, trial != trial, trial == other, trial != other], [True, False, False, True])
        for value in NO_STRINGS + (self.desk, self.book):
            self.assertEqual([trial == value, trial != value], [False, True])
        with trial:
            self.assertEqual([trial == trial, trial == other, self.desk.trial() == trial], [True, False, False])

    def test_trials_of_two_desks(self):
        other = Desk(self.book)
        with self.assertRaises(KeyError):
            with self.desk.trial() as desk:
                desk.claim(SOUND)
                other.claim(FREE)
                raise KeyError()
        self.check(self.book, (), 0)
        self.check(self.book, (FREE,), 1, other)

    def test_tried(self):
        seen = []

        def action(desk):
            seen.append(desk)
            desk.claim(SOUND)
            return seen

        self.assertIs(self.desk.tried(action), seen)
        self.assertIs(seen[0], self.desk)
        self.check(self.book, (SOUND,), 1)
        self.assertIsNone(self.desk.tried(action=lambda desk: desk.claim(FREE)))
        self.check(self.book, (SOUND, FREE), 2)
        self.assertEqual(self.desk.tried(lambda desk: desk.changes), 2)

    def test_tried_passes_exceptions_on(self):
        error = TooLong(5)

        def action(desk):
            desk.claim(SOUND)
            desk.change(Book((UP,)))
            raise error

        with self.assertRaises(TooLong) as held:
            self.desk.tried(action)
        self.assertIs(held.exception, error)
        self.check(self.book, (), 0)
        with self.assertRaises(NothingToUndo):
            self.desk.tried(Desk.undo)

    def test_tried_within_tried_and_trials(self):
        def inner(desk):
            desk.claim(FREE)
            raise KeyError()

        def outer(desk):
            desk.claim(SOUND)
            try:
                desk.tried(inner)
            except KeyError:
                return desk.claims

        with self.desk.trial():
            self.assertEqual(self.desk.tried(outer), (SOUND,))
        self.check(self.book, (SOUND,), 1)


class ObjectsTest(DeskCase):

    def test_a_desk_equals_itself_alone(self):
        other = Desk(self.book)
        self.assertEqual([self.desk == self.desk, self.desk != self.desk], [True, False])
        self.assertEqual([self.desk == other, self.desk != other], [False, True])
        for value in NO_STRINGS + (self.book, "up", self.desk.trial()):
            self.assertEqual([self.desk == value, self.desk != value], [False, True])
        self.desk.claim(SOUND)
        other.claim(SOUND)
        with self.desk.trial() as desk:
            self.assertEqual([self.desk == desk, self.desk == other, desk != other], [True, False, True])

    def test_two_desks_with_a_book(self):
        other = Desk(self.book)
        self.desk.claim(SOUND)
        self.desk.change(Book((UP,)))
        self.check(self.book, (), 0, other)

    def test_what_was_read_stays_as_it_was(self):
        claims, book = self.desk.claims, self.desk.book
        self.desk.claim(SOUND)
        self.desk.change(Book((UP,)))
        self.assertEqual((claims, str(book)), ((), BOTH_TEXT))

    def test_defined_where_they_are_listed(self):
        self.assertEqual(Desk.__module__, "joinrounds.desks")
        for name in ("book", "claims", "changes", "change", "claim", "lift", "undo", "trial", "tried"):
            self.assertIn(name, vars(Desk))


class GuaranteeTest(unittest.TestCase):

    def right(self, book, claim):
        """Whether a claim holds for a book, as the document's words tell it at many lengths."""
        word, name, *numbers = claim
        if name not in book.names:
            return False
        if word == "sound":
            return wrong_at(book, name) is None and all(model_wrong(book, name, size) is None for size in range(1, 18))
        if word == "order free":
            return not any(model_hazards(text, 20) for text in book.plan(name)[3] if "call" not in text)
        return model_counts(book, name, numbers[0])["joins rounds".split().index(word)] <= numbers[1]

    def some_claim(self, chance, name):
        word = chance.choice(("sound", "sound", "order free", "joins", "rounds"))
        if word in ("sound", "order free"):
            return (word, name)
        return (word, name, chance.randrange(1, 30), chance.randrange(0, 60))

    def test_all_claims_hold_behind_each_deed(self):
        books = some_books(seed=81, many=60, calls=4) + [Book.read(text) for text in SOUND_TEXTS] * 5
        chance = random.Random(82)
        seen = {}
        for turn in range(60):
            desk, past = Desk(chance.choice(books)), []
            for step in range(25):
                before = (desk.book, desk.claims)
                deed = chance.choice(("change", "claim", "claim", "claim", "lift", "undo", "round"))
                try:
                    self.do(chance, desk, deed, books)
                    end = deed
                except (Broken, InvalidPlace, UnknownPlan, NothingToUndo, InvalidText) as error:
                    end = type(error).__name__
                    self.assertEqual((desk.book, desk.claims), before)
                else:
                    past = past[:-1] if deed == "undo" else past + [before]
                seen[end] = seen.get(end, 0) + 1
                self.assertEqual(desk.changes, len(past))
                for claim in desk.claims:
                    self.assertTrue(self.right(desk.book, claim), (str(desk.book), claim))
            while past:
                desk.undo()
                self.assertEqual((desk.book, desk.claims), past.pop())
        for end in ("change", "claim", "lift", "undo", "round", "Broken"):
            self.assertGreater(seen[end], 20, seen)

    def do(self, chance, desk, deed, books):
        if deed == "change":
            desk.change(chance.choice(books))
        elif deed == "round":
            name, other = chance.choice(desk.book.names), chance.choice(books)
            desk.change(desk.book.changed(name, 0, chance.choice(other.plans)[3][0]))
        elif deed == "claim":
            desk.claim(self.some_claim(chance, chance.choice(desk.book.names)))
        elif deed == "lift":
            desk.lift(chance.randrange(3))
        else:
            desk.undo()

    def test_a_sound_plan_plays_right_on_the_rows_of_a_desk(self):
        for text in SOUND_TEXTS:
            book = Book.read(text)
            desk = Desk(book)
            desk.claim(("sound", book.names[0]))
            row = Row(desk.book, book.names[0], tuple("abcdefghijkl")).last()
            self.assertEqual(row.words, row.due)


if __name__ == "__main__":
    unittest.main()
