"""idle and mends: clauses in vain, and single changes that mend a plan."""

import itertools
import re
import unittest

from joinrounds.books import Book
from joinrounds.errors import InvalidText, NotABook, UnknownPlan
from joinrounds.levels import holds
from joinrounds.mending import idle, mends
from joinrounds.verdicts import is_sound
from tests.model import model_wrong, some_books
from tests.samples import (BAD_NAMES, BOTH_TEXT, FOUR_TEXT, GOOD_NAMES, NO_STRINGS, SOUND_TEXTS, THREE, UP, WRONG_TEXTS,
                           late_text, plan)

NO_BOOKS = NO_STRINGS + ("", "up", UP, (UP,), [UP], BOTH_TEXT, Book, Book((UP,)).plans, ValueError("up"))
SIZES = range(1, 31)
ONE = plan("one", "last 1", 4, ("clear 0 of 1",))
EVERY = plan("every", "all", 4, ("clear 0 of 1",))


def put(book, name, texts):
    """The book with other rounds for this plan."""
    return Book(tuple((*one[:3], tuple(texts)) if one[0] == name else one for one in book.plans))


def holds_long(book, name):
    """Whether the plan holds at many lengths, as the model says."""
    return all(model_wrong(book, name, size) is None for size in SIZES)


def model_idle(book, name):
    """The pairs that idle has to return, as far as the model can tell."""
    found = []
    for index, text in enumerate(book.plan(name)[3]):
        parts = text.split("; ")
        for at in range(len(parts)):
            texts = list(book.plan(name)[3])
            texts[index] = "; ".join(part for other, part in enumerate(parts) if other != at)
            texts = [one for one in texts if one]
            if texts and holds_long(put(book, name, texts), name):
                found.append((index, at))
    return tuple(found)


def other_digits(text):
    """All that differs from a round in one digit, those of names left out."""
    for found in re.finditer(r"(?<= )[0-9](?= |;|$)", text):
        yield from (text[:found.start()] + digit + text[found.end():] for digit in "0123456789" if digit != found.group())


def model_mends(book, name):
    """The pairs that mends has to return, as far as the model can tell."""
    found = []
    for index, text in enumerate(book.plan(name)[3]):
        for other in other_digits(text):
            try:
                if holds_long(book.changed(name, index, other), name):
                    found.append((index, other))
            except InvalidText:
                pass
    return tuple(sorted(found))


class IdleTest(unittest.TestCase):

    def check(self, book, name, *pairs):
        found = idle(book, name)
        self.assertEqual(found, pairs)
        self.assertEqual([type(found), *(type(part) for pair in found for part in (pair, *pair))],
                         [tuple] + [tuple, int, int] * len(pairs))

    def check_rounds(self, texts, *pairs, goal="all", base=1, others=(ONE, EVERY)):
        self.check(Book((plan("top", goal, base, tuple(texts)), *others)), "top", *pairs)

    def test_plans_in_which_no_clause_is_in_vain(self):
        self.check(Book.read(BOTH_TEXT), "up")
        self.check(Book.read(FOUR_TEXT), "four")
        self.check_rounds(("join 0 of 2 left 1; join 1 of 2 left 1",), goal="last 2")
        self.check_rounds(("take 0 of 1 left 1", "call every on 0 of 1"), goal="before")

    def test_one_clause_alone_has_none(self):
        for text in ("join 0 of 1 left 1", "call one on 0 of 2", "clear 0 of 1", "join 1 of 3 right 4", "call every on 0 of 1"):
            for goal in ("all", "last 1", "last 2"):
                self.check_rounds((text,), goal=goal)
        # The same clause does nothing, and so is in vain, where there is another one.
        self.check_rounds(("call one on 0 of 2", "call every on 0 of 1"), (0, 0))
        self.check_rounds(("call one on 0 of 2; call one on 1 of 2",), (0, 0), (0, 1), goal="last 1")

    def test_a_round_of_one_clause_goes_with_it(self):
        self.check_rounds(("call every on 0 of 1", "call one on 2 of 3"), (1, 0))
        self.check_rounds(("call one on 2 of 3", "call every on 0 of 1"), (0, 0))
        self.check_rounds(("join 0 of 1 left 1", "clear 0 of 1", "call every on 0 of 1"))
        self.check_rounds(("clear 0 of 1", "call every on 0 of 1"), (0, 0))
        self.check_rounds(("take 0 of 1 right 2", "join 0 of 1 left 1"), (0, 0), goal="last 2")

    def test_a_clause_of_several(self):
        self.check_rounds(("call one on 0 of 3; call one on 1 of 3; call one on 2 of 3", "call every on 0 of 1"),
                          (0, 0), (0, 1), (0, 2))
        self.check_rounds(("join 1 of 2 left 1; take 0 of 2 right 4", "call every on 1 of 2", "join 0 of 2 left 1"), (0, 1))
        self.check_rounds(("clear 0 of 2; join 1 of 2 left 1", "call every on 1 of 2", "join 0 of 2 left 1"), (0, 0))
        self.check_rounds(("join 0 of 2 left 1; take 1 of 2 right 2", "join 1 of 2 left 1"), goal="last 2")

    def test_each_of_two_is_in_vain_as_long_as_the_other_one_is_there(self):
        self.check_rounds(("call every on 0 of 1", "call every on 0 of 1"), (0, 0), (1, 0))
        self.check_rounds(("join 0 of 1 left 1", "join 0 of 1 left 1"), (0, 0), (1, 0), goal="last 2", base=4)
        self.check_rounds(("join 0 of 1 left 1",) * 3, goal="last 2", base=4)

    def test_plans_that_do_not_hold_by_themselves(self):
        # Without the clause told the plan holds; that it goes wrong with it does not matter.
        self.check_rounds(("call every on 0 of 1", "clear 0 of 1"), (1, 0))
        self.check_rounds(("call every on 0 of 1", "join 2 of 3 right 4"), (1, 0))
        self.check_rounds(("call every on 0 of 1", "clear 0 of 1", "clear 0 of 1"))
        self.check_rounds(("join 0 of 1 left 1", "join 0 of 1 left 1"), (0, 0), (1, 0), goal="last 2")
        self.check(Book((UP, THREE)), "three")

    def test_whether_the_plans_that_it_uses_hold_does_not_matter(self):
        for others in ((ONE, EVERY), (plan("one", "last 1", 1, ("join 0 of 1 left 1",)), plan("every", "all", 1, ("clear 0 of 1",)))):
            self.check_rounds(("call one on 1 of 2", "call every on 0 of 1"), (0, 0), others=others)
        self.check(Book((plan("top", "last 1", 1, ("call top on 1 of 2", "call top on 0 of 2")),)), "top", (0, 0), (1, 0))
        # Nor does it count that the plans would be sound without it.
        book = Book((plan("top", "last 1", 1, ("call low on 0 of 1", "clear 0 of 1")),
                     plan("low", "last 1", 1, ("call low on 1 of 2", "clear 0 of 1"))))
        self.check(book, "top", (1, 0))
        self.assertFalse(is_sound(Book((plan("top", "last 1", 1, ("call low on 0 of 1",)), book.plan("low"))), "top"))

    def test_a_call_of_the_plan_itself(self):
        for extra, pairs in (("call p on 2 of 3", ((0, 0),)), ("call p on 2 of 3; call p on 1 of 3", ())):
            self.check(Book((plan("p", "all", 1, (extra, *UP[3][:1], "call p on 1 of 2", *UP[3][2:])),)), "p", *pairs)
        self.check(Book((plan("p", "last 1", 1, ("call p on 2 of 3", "call p on 1 of 2; call p on 0 of 2")),)), "p",
                   (0, 0), (1, 0), (1, 1))

    def test_the_base_hides_what_goes_wrong_up_to_it(self):
        rounds = ("join 0 of 1 left 1", "join 0 of 3 left 4; join 1 of 3 left 4")
        for base in (1, 2, 3, 4):
            self.check_rounds(rounds, goal="last 2", base=base)
        # Only up to the base it would be in vain.
        for base in (1, 4):
            self.check_rounds(("call every on 0 of 1", "join 0 of 2 left 4"), (1, 0), base=base)

    def test_what_only_a_longer_row_shows(self):
        # Without its last clause this plan goes wrong at so many places as are told, and no sooner.
        for text, told_of in WRONG_TEXTS[2:6]:
            book = Book.read(text)
            texts = book.plan(told_of[0])[3]
            for extra in ("clear 0 of 1", "call four on 0 of 1", "take 0 of 2 left 1"):
                for at in range(len(texts[:4]) + 1):
                    other = put(book, told_of[0], texts[:at] + (extra,) + texts[at:4])
                    self.assertNotIn((at, 0), idle(other, told_of[0]))

    def test_like_the_model_for_sound_plans_with_more_in_them(self):
        told_of = 0
        for text in SOUND_TEXTS:
            book = Book.read(text)
            name = book.names[0]
            texts = book.plan(name)[3]
            if len(texts) == 5 or len(book.names) == 4:
                continue
            book = Book((*book.plans, plan("once", "last 1")))
            for at in range(len(texts) + 1):
                for more in ("call once on 1 of 2", "call once on 0 of 3; call once on 1 of 3", "join 0 of 2 left 3", "clear 0 of 1"):
                    other = put(book, name, texts[:at] + (more,) + texts[at:])
                    with self.subTest(book=str(other)):
                        self.check(other, name, *model_idle(other, name))
                        told_of += len(idle(other, name))
        self.assertGreater(told_of, 200)

    def test_like_the_model_for_many_books(self):
        for book in some_books(seed=61, many=150, calls=3):
            for name in book.names:
                with self.subTest(book=str(book), name=name):
                    self.check(book, name, *model_idle(book, name))


class MendsTest(unittest.TestCase):

    def check(self, book, name, *pairs):
        found = mends(book, name)
        self.assertEqual(found, pairs)
        self.assertEqual([type(found), *(type(part) for pair in found for part in (pair, *pair))],
                         [tuple] + [tuple, int, str] * len(pairs))

    def check_rounds(self, texts, *pairs, goal="last 1", base=1, others=(ONE, EVERY)):
        self.check(Book((plan("top", goal, base, tuple(texts)), *others)), "top", *pairs)

    def test_the_distance(self):
        self.check(Book((plan("four", "last 4", 1, ("join 0 of 1 left 1", "join 0 of 1 left 3")),)), "four",
                   (1, "join 0 of 1 left 2"))
        self.check_rounds(("join 0 of 1 left 4",), (0, "join 0 of 1 left 1"), goal="last 2")
        self.check_rounds(("take 0 of 1 left 4", "call every on 0 of 1"), (0, "take 0 of 1 left 1"), goal="before")
        self.check_rounds(("join 0 of 1 right 4",), goal="last 2")
        self.check_rounds(("join 1 of 2 left 1", "call every on 1 of 2", "join 0 of 2 left 3"), (2, "join 0 of 2 left 1"), goal="all")

    def test_the_remainder(self):
        self.check_rounds(("join 1 of 2 left 1", "call top on 0 of 2", "join 0 of 2 left 1"), (1, "call top on 1 of 2"), goal="all")
        self.check_rounds(("join 1 of 2 left 1", "call top on 1 of 2", "join 1 of 2 left 1"), (2, "join 0 of 2 left 1"), goal="all")
        self.check_rounds(("clear 0 of 3; take 1 of 3 left 1; take 2 of 3 left 1", "call one on 0 of 1"), goal="before")
        self.check_rounds(("join 0 of 1 left 1", "join 0 of 3 left 2; join 1 of 3 left 2"), goal="last 4")

    def test_the_divisor(self):
        self.check_rounds(("join 0 of 2 left 1",), (0, "join 0 of 1 left 1"), goal="last 2")
        self.check_rounds(("join 0 of 3 left 1",), (0, "join 0 of 1 left 1"), goal="last 2")
        self.check_rounds(("call every on 0 of 3",), (0, "call every on 0 of 1"), goal="all")
        self.check_rounds(("join 1 of 3 left 1", "call top on 1 of 2", "join 0 of 2 left 1"), (0, "join 1 of 2 left 1"), goal="all")

    def test_a_take_that_reads_from_the_other_side(self):
        texts = ("call every on 0 of 1", "take 0 of 2 right 1; take 1 of 2 left 1", "take 0 of 2 left 2")
        self.check_rounds(texts, goal="before")
        self.check_rounds((texts[0], "take 0 of 2 right 4; take 1 of 2 left 1", texts[2]), (1, texts[1]), goal="before")
        self.check_rounds((texts[0], "take 0 of 2 right 1; take 1 of 2 left 2", texts[2]), (1, texts[1]), goal="before")
        self.check_rounds((*texts[:2], "take 0 of 2 left 3"), (2, texts[2]), goal="before")

    def test_no_digit_of_a_clear_mends(self):
        # Two words that are lost are lost for good, and in a long row each class has two places.
        for goal, kind in itertools.product(("all", "before", "last 1", "last 2"), ("0 of 1", "0 of 2", "1 of 2", "2 of 3")):
            self.check_rounds((f"clear {kind}", "call every on 0 of 1"), goal=goal)
            self.check_rounds(("call every on 0 of 1", f"clear {kind}"), goal=goal, base=4)

    def test_what_does_nothing_may_be_anywhere(self):
        self.check_rounds(("call one on 0 of 2",), (0, "call one on 0 of 1"), (0, "call one on 0 of 3"), (0, "call one on 1 of 2"))
        self.check_rounds(("call one on 1 of 3",), (0, "call one on 0 of 3"), (0, "call one on 1 of 2"), (0, "call one on 2 of 3"))
        self.check_rounds(("call one on 0 of 1",), (0, "call one on 0 of 2"), (0, "call one on 0 of 3"))

    def test_places_in_the_classes_of_two_clauses(self):
        self.check_rounds(("call one on 0 of 2; call one on 1 of 2",))
        self.check_rounds(("call one on 0 of 3; call one on 1 of 3",), (0, "call one on 0 of 3; call one on 2 of 3"),
                          (0, "call one on 2 of 3; call one on 1 of 3"))
        self.check_rounds(("call one on 0 of 3; call one on 1 of 3; call one on 2 of 3",))

    def test_calls_on_all_places_of_plans_not_further_down(self):
        self.check_rounds(("call top on 0 of 2",), (0, "call top on 0 of 3"), (0, "call top on 1 of 2"))
        up = plan("up", "last 1", 1, ("clear 0 of 1",))
        book = Book((up, plan("low", "last 1", 1, ("call up on 0 of 3",)), plan("end", "last 1", 1, ("call up on 1 of 3",))))
        self.check(book, "low", (0, "call up on 0 of 2"), (0, "call up on 1 of 3"), (0, "call up on 2 of 3"))
        book = Book((plan("low", "last 1", 1, ("call up on 0 of 3",)), up))
        self.check(book, "low", (0, "call up on 0 of 1"), (0, "call up on 0 of 2"), (0, "call up on 1 of 3"), (0, "call up on 2 of 3"))

    def test_digits_of_names_are_none(self):
        names = ("p1", "p2", "a1", "a11")
        goals = ("last 1", "last 2", "all", "last 1")
        plans = [plan(name, goal, 4, ("clear 0 of 1",)) for name, goal in zip(names, goals)]
        plans[0] = plan("p1", "last 1", 4, ("call p2 on 1 of 2",))
        self.check(Book(tuple(plans)), "p1")
        plans[0] = plan("p1", "all", 4, ("call a11 on 0 of 1",))
        self.check(Book(tuple(plans)), "p1")
        plans[0] = plan("p1", "last 1", 4, ("call p1 on 1 of 2; call a11 on 0 of 2",))
        self.check(Book(tuple(plans)), "p1")
        plans[0] = plan("p1", "last 1", 4, ("call a11 on 1 of 3; call p1 on 2 of 3",))
        self.check(Book(tuple(plans)), "p1", (0, "call a11 on 0 of 3; call p1 on 2 of 3"),
                   (0, "call a11 on 1 of 3; call p1 on 0 of 3"))

    def test_the_text_itself_is_not_told(self):
        self.check(Book((UP,)), "up")
        self.check(Book.read(FOUR_TEXT), "four")
        for text in SOUND_TEXTS:
            book = Book.read(text)
            for name in book.names:
                for index, other in mends(book, name):
                    self.assertNotEqual(other, book.plan(name)[3][index])

    def test_ascending_by_index_and_then_by_text(self):
        self.check_rounds(("call one on 2 of 3", "call one on 1 of 3; call one on 0 of 3", "call one on 0 of 2"),
                          (0, "call one on 0 of 3"), (0, "call one on 1 of 3"),
                          (1, "call one on 1 of 3; call one on 2 of 3"), (1, "call one on 2 of 3; call one on 0 of 3"),
                          (2, "call one on 0 of 1"), (2, "call one on 0 of 3"), (2, "call one on 1 of 2"))
        # The earlier digit is not always that of the lesser text.
        self.check_rounds(("call one on 0 of 2; call one on 1 of 2", "call one on 1 of 2"),
                          (1, "call one on 0 of 2"), (1, "call one on 1 of 3"))

    def test_whether_the_plans_that_it_uses_hold_does_not_matter(self):
        bad = plan("every", "all", 1, ("clear 0 of 1",))
        self.check_rounds(("call every on 0 of 2",), (0, "call every on 0 of 1"), goal="all", others=(bad,))
        book = Book((plan("top", "all", 1, ("call every on 0 of 1",)), bad))
        self.assertFalse(is_sound(book, "top"))

    def test_what_only_a_longer_row_shows(self):
        # With one digit otherwise these are plans that go wrong late: such a change does not mend them.
        for text, told_of in WRONG_TEXTS[2:6]:
            late = Book.read(text)
            name = told_of[0]
            for index, one in enumerate(late.plan(name)[3]):
                for other in other_digits(one):
                    try:
                        book = late.changed(name, index, other)
                    except InvalidText:
                        continue
                    with self.subTest(book=str(book)):
                        self.assertNotIn((index, one), mends(book, name))

    def test_a_sound_plan_mends_all_that_have_one_other_digit(self):
        seen = 0
        for text in SOUND_TEXTS:
            sound = Book.read(text)
            name = sound.names[0]
            for index, one in enumerate(sound.plan(name)[3]):
                for other in other_digits(one):
                    try:
                        book = sound.changed(name, index, other)
                    except InvalidText:
                        continue
                    with self.subTest(book=str(book)):
                        self.assertIn((index, one), mends(book, name))
                        self.check(book, name, *model_mends(book, name))
                    seen += 1
        self.assertGreater(seen, 100)

    def test_like_the_model_for_many_books(self):
        for book in some_books(seed=62, many=60, calls=3) + some_books(seed=63, many=60, calls=9):
            for name in book.names:
                with self.subTest(book=str(book), name=name):
                    self.check(book, name, *model_mends(book, name))


class MeaningTest(unittest.TestCase):

    def test_what_is_told_holds_up_to_a_hundred_places_and_beyond(self):
        books = [Book.read(text) for text in SOUND_TEXTS] + [Book.read(late_text(kind)) for kind in (0, 1, 2)]
        for book in books + some_books(seed=64, many=60, calls=4):
            for name in book.names:
                texts = book.plan(name)[3]
                others = [texts[:index] + (text,) + texts[index + 1:] for index, text in mends(book, name)]
                for index, at in idle(book, name):
                    parts = texts[index].split("; ")
                    left = "; ".join(parts[:at] + parts[at + 1:])
                    others.append(texts[:index] + ((left,) if left else ()) + texts[index + 1:])
                for other in others:
                    changed = put(book, name, other)
                    with self.subTest(book=str(changed), name=name):
                        self.assertTrue(all(holds(changed, name, size) for size in (*range(1, 40), 64, 99, 100)))
                        self.assertIsNone(model_wrong(changed, name, 127))


class ArgumentsTest(unittest.TestCase):

    def setUp(self):
        self.book = Book((UP, THREE))

    def check_raised(self, error, given, *arguments):
        for call in (idle, mends):
            with self.assertRaises(error) as held:
                call(*arguments)
            self.assertIs(type(held.exception), error)
            self.assertIs(held.exception.given, given)

    def test_by_name(self):
        book = Book((plan("top", "last 1", 1, ("call one on 0 of 2", "call one on 0 of 1")), ONE))
        for call in (idle, mends):
            self.assertEqual(call(name="top", book=book), call(book, "top"))
            self.assertEqual(call(book, name="top"), call(book, "top"))
            self.assertNotEqual(call(book, "top"), ())

    def test_no_books(self):
        for given in NO_BOOKS:
            with self.subTest(given=given):
                self.check_raised(NotABook, given, given, "up")
                self.check_raised(NotABook, given, given, None)

    def test_no_names_of_plans_of_the_book(self):
        for given in NO_STRINGS + BAD_NAMES + GOOD_NAMES + ("u", "upp", UP, self.book, ("up",)):
            with self.subTest(given=given):
                self.check_raised(UnknownPlan, given, self.book, given)

    def test_calls_change_nothing_and_return_the_same_again(self):
        for book in some_books(seed=65, many=20) + [Book.read(text) for text in SOUND_TEXTS]:
            text, plans = str(book), book.plans
            for name, call in itertools.product(book.names, (idle, mends)):
                first = call(book, name)
                self.assertEqual(call(book, name), first)
                self.assertEqual(call(Book.read(text), name), first)
            self.assertEqual(str(book), text)
            self.assertIs(book.plans, plans)

    def test_defined_where_they_are_listed(self):
        for call in (idle, mends):
            self.assertEqual(call.__module__, "joinrounds.mending")


if __name__ == "__main__":
    unittest.main()
