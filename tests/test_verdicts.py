"""uses, wrong_at and is_sound: which plans a plan uses, and whether all of them hold at all lengths."""

import itertools
import unittest

from joinrounds.books import Book
from joinrounds.errors import NotABook, UnknownPlan
from joinrounds.levels import holds
from joinrounds.verdicts import is_sound, uses, wrong_at
from tests.model import model_led, model_wrong, short_books, some_books, told
from tests.samples import (BAD_NAMES, BOTH_TEXT, CLASSES, FOUR_TEXT, GOALS, GOOD_NAMES, NO_STRINGS, SOUND_TEXTS, THREE,
                           UP, WRONG_TEXTS, late_text, plain_clauses, plan)

NO_BOOKS = NO_STRINGS + ("", "up", UP, (UP,), [UP], BOTH_TEXT, Book, Book((UP,)).plans)


def calling(name, called):
    """A plan that only calls another one, on every second place."""
    return plan(name, "last 1", 1, (f"call {called} on 1 of 2",))


def model_uses(book, name):
    """The names that can be reached by calls, in the order of the book."""
    reached = {name}
    for again in book.names:
        for one in sorted(reached):
            reached |= {other for other in book.names for text in book.plan(one)[3]
                        for part in text.split("; ") if part.startswith(f"call {other} on ")}
    return tuple(one for one in book.names if one in reached)


def model_first(book, name, most):
    """What wrong_at has to return, for a book that goes wrong up to this length or never."""
    for size in range(1, most + 1):
        for used in model_uses(book, name):
            place = model_wrong(book, used, size)
            if place is not None:
                return used, size, place
    return None


class UsesTest(unittest.TestCase):

    def book(self, *plans):
        return Book(tuple(plan(name, rounds=tuple(rounds) or ("clear 0 of 1",)) for name, *rounds in plans))

    def test_a_plan_without_calls_uses_itself(self):
        for book in (Book((UP, THREE)), Book((THREE, UP))):
            self.assertEqual(uses(book, "three"), ("three",))
        self.assertEqual(uses(self.book(["a"], ["b"], ["c"], ["d"]), "c"), ("c",))

    def test_a_plan_that_calls_itself(self):
        self.assertEqual(uses(Book((UP,)), "up"), ("up",))
        self.assertEqual(uses(Book((THREE, UP)), "up"), ("up",))

    def test_plans_that_call_one_another(self):
        book = self.book(["a", "call b on 1 of 2"], ["b", "call a on 1 of 2"], ["c"])
        self.assertEqual([uses(book, name) for name in "abc"], [("a", "b"), ("a", "b"), ("c",)])

    def test_a_chain_down_and_up(self):
        book = self.book(["a", "call b on 0 of 1"], ["b", "call c on 0 of 1"], ["c", "call d on 0 of 1"], ["d"])
        self.assertEqual([uses(book, name) for name in "abcd"], [tuple("abcd"), tuple("bcd"), tuple("cd"), ("d",)])
        book = self.book(["a"], ["b", "call a on 1 of 2"], ["c", "call b on 1 of 2"], ["d", "call c on 1 of 2"])
        self.assertEqual([uses(book, name) for name in "abcd"], [("a",), tuple("ab"), tuple("abc"), tuple("abcd")])

    def test_a_ring(self):
        book = self.book(["a", "call c on 1 of 2"], ["b", "call a on 1 of 2"], ["c", "call d on 1 of 3"],
                         ["d", "call b on 1 of 3"])
        for name in "abcd":
            self.assertEqual(uses(book, name), tuple("abcd"))

    def test_a_ring_with_a_tail(self):
        book = self.book(["tail"], ["one", "call two on 1 of 2"], ["two", "call one on 1 of 2; call tail on 0 of 2"],
                         ["lone", "call lone on 2 of 3"])
        self.assertEqual(uses(book, "one"), ("tail", "one", "two"))
        self.assertEqual(uses(book, "two"), ("tail", "one", "two"))
        self.assertEqual(uses(book, "tail"), ("tail",))
        self.assertEqual(uses(book, "lone"), ("lone",))

    def test_in_the_order_of_the_book_and_once_each(self):
        book = self.book(["z"], ["a"], ["m", "call y on 0 of 2; call z on 1 of 2", "call a on 1 of 2", "call z on 0 of 3"],
                         ["y", "call m on 1 of 2"])
        self.assertEqual(uses(book, "m"), ("z", "a", "m", "y"))
        self.assertIs(type(uses(book, "m")), tuple)

    def test_calls_in_any_round_and_clause(self):
        rounds = ("clear 0 of 1", "call a on 0 of 3; call a on 1 of 3; call b on 2 of 3", "clear 0 of 1", "call c on 2 of 3")
        book = self.book(["a", *rounds], ["b"], ["c"], ["d"])
        self.assertEqual(uses(book, "a"), ("a", "b", "c"))

    def test_names_that_are_words_of_clauses(self):
        book = self.book(["join", "call on on 1 of 2"], ["on", "call call on 0 of 1"], ["call"], ["of", "join 0 of 1 left 1"])
        self.assertEqual(uses(book, "join"), ("join", "on", "call"))
        self.assertEqual(uses(book, "of"), ("of",))

    def test_like_the_model(self):
        for book in some_books(seed=11, many=200, calls=3):
            for name in book.names:
                with self.subTest(book=str(book), name=name):
                    self.assertEqual(uses(book, name), model_uses(book, name))


class VerdictsTest(unittest.TestCase):

    def check(self, book, name, told_of):
        self.assertEqual(wrong_at(book, name), told_of)
        self.assertIs(is_sound(book, name), told_of is None)
        if told_of is not None:
            self.assertEqual([type(told_of), *map(type, wrong_at(book, name))], [tuple, str, int, int])

    def test_sound_plans(self):
        for text in SOUND_TEXTS:
            book = Book.read(text)
            for name in book.names:
                with self.subTest(text=text, name=name):
                    self.check(book, name, None)

    def test_wrong_plans_early_and_late(self):
        for text, told_of in WRONG_TEXTS:
            with self.subTest(text=text):
                book = Book.read(text)
                self.check(book, told_of[0], told_of)
                for size in range(1, told_of[1] + 1):
                    self.assertIs(holds(book, told_of[0], size), size < told_of[1])

    def test_plans_that_went_wrong_late_stay_wrong(self):
        for kind in (0, 1, 2):
            book = Book.read(late_text(kind))
            self.assertEqual([holds(book, "late", size) for size in range(13 + kind, 101)], [False] * (88 - kind))
        book = Book.read(WRONG_TEXTS[5][0])
        self.assertEqual([holds(book, "later", size) for size in (16, 20, 21, 50, 99, 100)], [False] * 6)

    def test_just_behind_the_base(self):
        for base, goal in itertools.product((1, 2, 3, 4), GOALS):
            with self.subTest(base=base, goal=goal):
                place = 1 if goal == "before" else 0
                self.check(Book((plan("a", goal, base, ("clear 0 of 1",)),)), "a", ("a", base + 1, place))

    def test_a_base_can_hide_a_wrong_length(self):
        rounds = ("join 0 of 1 left 1", "join 0 of 1 left 2")
        for base in (1, 2, 3, 4):
            self.check(Book((plan("a", "all", base, rounds),)), "a", ("a", 5, 4))
            self.check(Book((plan("a", "last 2", base, rounds),)), "a", ("a", max(3, base + 1), 2))
            self.check(Book((plan("a", "last 4", base, rounds),)), "a", None)

    def test_the_least_place(self):
        self.check(Book((plan("a", "last 1", 4, ("clear 2 of 3",)),)), "a", ("a", 5, 2))
        self.check(Book((plan("a", "last 1", 4, ("join 1 of 3 left 1",)),)), "a", ("a", 5, 1))
        self.check(Book((plan("a", "last 1", 4, ("join 0 of 2 right 1",)),)), "a", ("a", 5, 0))
        self.check(Book((plan("a", "last 1", 1, ("join 0 of 2 left 4",)),)), "a", ("a", 5, 4))
        self.check(Book((plan("a", "last 1", 1, ("join 1 of 2 right 4",)),)), "a", ("a", 6, 1))

    def test_wrong_at_some_lengths_only(self):
        rounds = ("take 0 of 2 right 1; take 1 of 2 left 1",) * 2
        for base, size in ((1, 3), (2, 3), (3, 5), (4, 5)):
            self.check(Book((plan("swap", "last 1", base, rounds),)), "swap", ("swap", size, size - 1))
        rounds = ("take 0 of 3 right 1; take 1 of 3 left 1",) * 2
        for base, size in ((1, 4), (2, 4), (3, 4), (4, 7)):
            self.check(Book((plan("swap", "last 1", base, rounds),)), "swap", ("swap", size, size - 1))

    def test_another_plan_is_wrong_at_a_lesser_length(self):
        # By itself the first plan goes wrong at four places, where a called row has two.
        book = Book((calling("top", "three"), THREE))
        self.check(book, "top", ("three", 3, 1))
        book = Book((calling("top", "two"), plan("two", "last 2", 3, ("join 0 of 1 left 1", "join 2 of 3 left 2"))))
        self.check(book, "top", ("top", 4, 3))
        self.check(book, "two", ("two", 4, 2))
        late = Book.read(late_text(2).replace(FOUR_TEXT, FOUR_TEXT.replace("left 2", "left 4")))
        self.check(late, "late", ("four", 3, 2))
        self.check(late, "four", ("four", 3, 2))

    def test_another_plan_is_wrong_alone(self):
        bad = plan("bad", "last 1", 2, ("join 2 of 3 left 2",))
        for book in (Book((calling("top", "bad"), bad)), Book((bad, calling("top", "bad")))):
            self.check(book, "top", ("bad", 3, 2))
            self.check(book, "bad", ("bad", 3, 2))

    def test_at_the_same_length_the_first_one_in_the_order_of_the_book(self):
        one = plan("one", "last 1", 4, ("clear 2 of 3", "call one on 1 of 2"))
        two = plan("two", "last 1", 4, ("clear 1 of 3", "call one on 1 of 2"))
        three = plan("three", "last 1", 4, ("clear 0 of 3", "call one on 1 of 2; call two on 0 of 2"))
        places = {"one": 2, "two": 1, "three": 0}
        for order in itertools.permutations((one, two, three)):
            book = Book(order)
            names = book.names
            with self.subTest(names=names):
                self.check(book, "one", ("one", 5, 2))
                first = min(("one", "two"), key=names.index)
                self.check(book, "two", (first, 5, places[first]))
                self.check(book, "three", (names[0], 5, places[names[0]]))

    def test_a_lesser_length_counts_more_than_the_order(self):
        slow = plan("slow", "last 1", 4, ("clear 0 of 1", "call fast on 1 of 2"))
        fast = plan("fast", "last 1", 1, ("join 0 of 1 left 3", "call slow on 1 of 2"))
        for order in ((slow, fast), (fast, slow)):
            self.check(Book(order), "slow", ("fast", 4, 3))
            self.check(Book(order), "fast", ("fast", 4, 3))

    def test_one_further_down_that_is_used_through_a_third(self):
        plans = (calling("a", "b"), calling("b", "c"), calling("c", "d"),
                 plan("d", "last 1", 1, ("join 0 of 1 left 4",)))
        for order in itertools.permutations(plans):
            for name in "abcd":
                with self.subTest(order=order, name=name):
                    self.check(Book(order), name, ("d", 5, 4))
        book = Book((plans[0], plans[1], calling("c", "a"), plans[3]))
        for name, told_of in (("a", None), ("b", None), ("c", None), ("d", ("d", 5, 4))):
            self.check(book, name, told_of)

    def test_plans_that_are_not_used_do_not_matter(self):
        book = Book((THREE, UP, plan("bad", "before", 1, ("call up on 0 of 2",))))
        self.check(book, "up", None)
        self.check(book, "three", ("three", 3, 1))
        self.check(book, "bad", ("bad", 2, 0))

    def test_a_plan_that_is_right_over_wrong_ones_is_not_sound(self):
        # Twice wrong is right again: still the plan that is called does not hold.
        swap = plan("swap", "last 1", 1, ("take 0 of 2 right 1; take 1 of 2 left 1",))
        book = Book((plan("top", "last 1", 1, ("call swap on 0 of 1", "call swap on 0 of 1")), swap))
        self.check(book, "top", ("swap", 2, 0))

    def test_like_the_model_for_all_short_plans(self):
        for book in short_books():
            with self.subTest(book=str(book)):
                self.check(book, "top", model_first(book, "top", 30))

    def test_like_the_model_for_many_books(self):
        for book in some_books(seed=12, many=400):
            for name in book.names:
                with self.subTest(book=str(book), name=name):
                    self.check(book, name, model_first(book, name, 40))

    def test_like_the_model_for_all_books_with_one_other_clause(self):
        sound = 0
        for text in SOUND_TEXTS:
            book = Book.read(text)
            name = book.names[0]
            calls = [f"call {one} on {kind}" for one in book.names for kind in CLASSES if kind != "0 of 1"]
            clauses = [clause for kind in CLASSES for clause in plain_clauses(kind)] + calls
            for index, clause in itertools.product(range(len(book.plan(name)[3])), clauses):
                other = book.changed(name, index, clause)
                with self.subTest(book=str(other)):
                    self.check(other, name, model_first(other, name, 30))
                sound += is_sound(other, name)
        self.assertGreater(sound, 30)


class MeaningTest(unittest.TestCase):
    """What a verdict says of rows that are led to their ends."""

    def test_sound_plans_do_what_their_goals_say(self):
        for text in SOUND_TEXTS:
            book = Book.read(text)
            for name, size in itertools.product(book.names, (*range(1, 20), 31, 32, 33, 63, 64, 65, 100, 121)):
                words = [(place,) for place in range(size)]
                with self.subTest(text=text, name=name, size=size):
                    self.assertEqual(model_led(book, name, words), told(book.plan(name)[1], words))

    def test_wrong_plans_do_not_at_the_length_that_is_told(self):
        # Below it all plans that are used hold, so what they call is right there.
        for text, told_of in WRONG_TEXTS:
            book = Book.read(text)
            for size in range(1, told_of[1] + 1):
                words = [(place,) for place in range(size)]
                led, right = model_led(book, told_of[0], words), told(book.plan(told_of[0])[1], words)
                wrong = [place for place in range(size) if led[place] != right[place]]
                with self.subTest(text=text, size=size):
                    self.assertEqual(wrong[:1], [told_of[2]] if size == told_of[1] else [])


class ArgumentsTest(unittest.TestCase):

    def setUp(self):
        self.book = Book((UP, THREE))

    def check_raised(self, error, given, *arguments):
        for call in (uses, wrong_at, is_sound):
            with self.assertRaises(error) as held:
                call(*arguments)
            self.assertIs(type(held.exception), error)
            self.assertIs(held.exception.given, given)

    def test_by_name(self):
        for name in ("up", "three"):
            self.assertEqual(uses(name=name, book=self.book), uses(self.book, name))
            self.assertEqual(wrong_at(book=self.book, name=name), wrong_at(self.book, name))
            self.assertIs(is_sound(name=name, book=self.book), is_sound(self.book, name))

    def test_no_books(self):
        for given in NO_BOOKS:
            with self.subTest(given=given):
                self.check_raised(NotABook, given, given, "up")
                self.check_raised(NotABook, given, given, None)

    def test_no_names_of_plans_of_the_book(self):
        for given in NO_STRINGS + BAD_NAMES + GOOD_NAMES + ("u", "upp", UP, self.book, ("up",)):
            with self.subTest(given=given):
                self.check_raised(UnknownPlan, given, self.book, given)

    def test_calls_change_nothing_and_return_the_same_again(self):
        for book in some_books(seed=13, many=20) + [Book.read(text) for text in SOUND_TEXTS]:
            text, plans = str(book), book.plans
            for name in book.names:
                for call in (uses, wrong_at, is_sound):
                    first = call(book, name)
                    self.assertEqual(call(book, name), first)
                    self.assertEqual(call(Book.read(text), name), first)
            self.assertEqual(str(book), text)
            self.assertIs(book.plans, plans)

    def test_defined_where_they_are_listed(self):
        for call in (uses, wrong_at, is_sound):
            self.assertEqual(call.__module__, "joinrounds.verdicts")


if __name__ == "__main__":
    unittest.main()
