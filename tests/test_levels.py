"""level and holds: what the places hold round by round, and whether it is right."""

import itertools
import unittest

from joinrounds import levels
from joinrounds.books import Book
from joinrounds.errors import InvalidCount, NotABook, UnknownPlan
from joinrounds.levels import holds, level
from tests.model import as_run, model_level, model_wrong, short_books, some_books, told
from tests.samples import BAD_NAMES, BOTH_TEXT, GOALS, GOOD_NAMES, NO_INTEGERS, NO_STRINGS, THREE, UP, plan

NOUGHT = (0, 0)
NO_BOOKS = NO_STRINGS + ("", "up", UP, (UP,), [UP], BOTH_TEXT, Book, Book((UP,)).plans, ValueError("up"))
BAD_SIZES = NO_INTEGERS + (0, -1, -100, 101, 102, 1000, 10 ** 12, 10 ** 39, -10 ** 39)


def book_of(rounds, goal="all", base=1, others=()):
    """A book whose first plan, called top, has these rounds, and the goals of the others by their names."""
    more = [plan(name, told_goal, 4, ("clear 0 of 1",)) for name, told_goal in others]
    return Book((plan("top", goal, base, tuple(rounds)), *more))


class LevelTest(unittest.TestCase):

    def check(self, book, size, *behind):
        first = tuple((place, place + 1) for place in range(size))
        self.assertEqual(level(book, "top", size), (first, *behind))

    def test_at_first_each_place_holds_its_piece(self):
        for size in (1, 2, 3, 4, 5, 99, 100):
            book = book_of(["clear 0 of 1"])
            with self.subTest(size=size):
                self.check(book, size, (NOUGHT,) * size)

    def test_joins_to_the_left(self):
        book = book_of(["join 0 of 1 left 1", "join 0 of 1 left 2"])
        self.check(book, 1, ((0, 1),), ((0, 1),))
        self.check(book, 4, ((0, 1), (0, 2), (1, 3), (2, 4)), ((0, 1), (0, 2), (0, 3), (0, 4)))
        self.check(book_of(["join 1 of 3 left 1"]), 6, ((0, 1), (0, 2), (2, 3), (3, 4), (3, 5), (5, 6)))
        for far in (1, 2, 3, 4):
            book = book_of([f"join 0 of 1 left {far}"])
            with self.subTest(far=far):
                self.check(book, far, tuple((place, place + 1) for place in range(far)))
                last = (0, 2) if far == 1 else None
                self.check(book, far + 1, (*((place, place + 1) for place in range(far)), last))

    def test_joins_to_the_right(self):
        self.check(book_of(["join 0 of 1 right 1"]), 1, ((0, 1),))
        self.check(book_of(["join 0 of 1 right 1"]), 3, ((0, 2), (1, 3), (2, 3)))
        self.check(book_of(["join 0 of 2 right 1"]), 5, ((0, 2), (1, 2), (2, 4), (3, 4), (4, 5)))
        self.check(book_of(["join 0 of 2 right 1"]), 4, ((0, 2), (1, 2), (2, 4), (3, 4)))
        for far in (1, 2, 3, 4):
            book = book_of([f"join 0 of 1 right {far}"])
            with self.subTest(far=far):
                self.check(book, far, tuple((place, place + 1) for place in range(far)))
                first = (0, 2) if far == 1 else None
                self.check(book, far + 1, (first, *((place, place + 1) for place in range(1, far + 1))))

    def test_runs_that_do_not_meet_are_spoilt(self):
        # A gap, a part that is there twice, and the wrong order.
        self.check(book_of(["join 0 of 1 left 2"]), 3, ((0, 1), (1, 2), None))
        self.check(book_of(["join 0 of 1 left 1", "join 0 of 1 left 1"]), 3,
                   ((0, 1), (0, 2), (1, 3)), ((0, 1), None, None))
        self.check(book_of(["take 0 of 2 right 1; take 1 of 2 left 1", "join 1 of 2 left 1"]), 2,
                   ((1, 2), (0, 1)), ((1, 2), None))
        self.check(book_of(["take 0 of 2 right 1; take 1 of 2 left 1", "join 0 of 2 right 1"]), 2,
                   ((1, 2), (0, 1)), (None, (0, 1)))
        self.check(book_of(["take 1 of 2 left 1", "join 1 of 2 left 1"]), 2, ((0, 1), (0, 1)), ((0, 1), None))

    def test_joins_with_the_nought(self):
        clear = (NOUGHT, (1, 2), NOUGHT, (3, 4))
        self.check(book_of(["clear 0 of 2", "join 0 of 1 left 1"]), 4, clear, (NOUGHT, (1, 2), (1, 2), (3, 4)))
        self.check(book_of(["clear 0 of 2", "join 0 of 1 right 1"]), 4, clear, ((1, 2), (1, 2), (3, 4), (3, 4)))
        self.check(book_of(["clear 0 of 2", "join 0 of 1 left 2"]), 4, clear, (NOUGHT, (1, 2), NOUGHT, None))
        self.check(book_of(["clear 0 of 1", "join 0 of 1 left 1"]), 2, (NOUGHT, NOUGHT), (NOUGHT, NOUGHT))
        self.check(book_of(["take 0 of 1 left 1", "join 0 of 2 right 1"]), 2, (NOUGHT, (0, 1)), ((0, 1), (0, 1)))
        self.check(book_of(["clear 1 of 2", "join 1 of 2 left 1"]), 2, ((0, 1), NOUGHT), ((0, 1), (0, 1)))

    def test_what_is_spoilt_stays_spoilt_with_the_nought_too(self):
        rounds = ["join 0 of 1 left 2", "clear 0 of 2", "join 1 of 2 left 1", "join 0 of 2 right 1"]
        self.check(book_of(rounds), 4, ((0, 1), (1, 2), None, None), (NOUGHT, (1, 2), NOUGHT, None),
                   (NOUGHT, (1, 2), NOUGHT, None), ((1, 2), (1, 2), None, None))
        self.check(book_of(["join 0 of 2 left 2", "join 1 of 2 left 1"]), 4, ((0, 1), (1, 2), None, (3, 4)),
                   ((0, 1), (0, 2), None, None))

    def test_what_is_spoilt_can_be_taken_and_cleared(self):
        self.check(book_of(["join 0 of 1 left 2", "take 0 of 1 left 1", "clear 0 of 3"]), 4,
                   ((0, 1), (1, 2), None, None), (NOUGHT, (0, 1), (1, 2), None), (NOUGHT, (0, 1), (1, 2), NOUGHT))
        self.check(book_of(["join 0 of 1 left 2", "take 0 of 1 left 2"]), 4,
                   ((0, 1), (1, 2), None, None), (NOUGHT, NOUGHT, (0, 1), (1, 2)))

    def test_takes_from_inside_and_outside(self):
        self.check(book_of(["take 0 of 1 left 1"]), 3, (NOUGHT, (0, 1), (1, 2)))
        self.check(book_of(["take 0 of 1 left 4"]), 5, (NOUGHT, NOUGHT, NOUGHT, NOUGHT, (0, 1)))
        self.check(book_of(["take 0 of 1 left 4"]), 3, (NOUGHT,) * 3)
        self.check(book_of(["take 0 of 1 right 2"]), 3, ((2, 3), NOUGHT, NOUGHT))
        self.check(book_of(["take 2 of 3 right 1"]), 3, ((0, 1), (1, 2), NOUGHT))
        self.check(book_of(["take 2 of 3 right 1"]), 4, ((0, 1), (1, 2), (3, 4), (3, 4)))
        self.check(book_of(["take 0 of 1 left 1"]), 1, (NOUGHT,))

    def test_all_places_change_at_once(self):
        self.check(book_of(["take 0 of 2 right 1; take 1 of 2 left 1"]), 4, ((1, 2), (0, 1), (3, 4), (2, 3)))
        self.check(book_of(["take 1 of 2 left 1; take 0 of 2 right 1"]), 4, ((1, 2), (0, 1), (3, 4), (2, 3)))
        self.check(book_of(["clear 0 of 2; join 1 of 2 left 1"]), 4, (NOUGHT, (0, 2), NOUGHT, (2, 4)))
        self.check(book_of(["call b on 0 of 2; call a on 1 of 2"], others=[("a", "all"), ("b", "before")]), 4,
                   (NOUGHT, (1, 2), (0, 1), None))

    def test_calls_of_each_goal_on_all_places(self):
        right = {"all": ((0, 1), (0, 2), (0, 3), (0, 4), (0, 5)), "before": (NOUGHT, (0, 1), (0, 2), (0, 3), (0, 4)),
                 "last 1": ((0, 1), (1, 2), (2, 3), (3, 4), (4, 5)), "last 2": ((0, 1), (0, 2), (1, 3), (2, 4), (3, 5)),
                 "last 3": ((0, 1), (0, 2), (0, 3), (1, 4), (2, 5)), "last 4": ((0, 1), (0, 2), (0, 3), (0, 4), (1, 5))}
        for goal in GOALS:
            with self.subTest(goal=goal):
                book = book_of(["call it on 0 of 1"], others=[("it", goal)])
                self.check(book, 5, right[goal])
                self.check(book, 1, right[goal][:1])

    def test_calls_on_a_part_of_the_places(self):
        pairs = ((0, 1), (0, 2), (2, 3), (2, 4), (4, 5), (4, 6))
        ends = {"all": ((0, 2), (0, 4), (0, 6)), "before": (NOUGHT, (0, 2), (0, 4)), "last 1": ((0, 2), (2, 4), (4, 6)),
                "last 2": ((0, 2), (0, 4), (2, 6)), "last 3": ((0, 2), (0, 4), (0, 6))}
        for goal, told_ends in ends.items():
            with self.subTest(goal=goal):
                behind = list(pairs)
                behind[1::2] = told_ends
                book = book_of(["join 1 of 2 left 1", "call it on 1 of 2"], others=[("it", goal)])
                self.check(book, 6, pairs, tuple(behind))

    def test_calls_whose_pieces_do_not_meet(self):
        pieces = ((0, 1), (1, 2), (2, 3), (3, 4), (4, 5))
        for goal, ends in (("all", ((0, 1), None, None)), ("before", (NOUGHT, (0, 1), None)),
                           ("last 1", ((0, 1), (2, 3), (4, 5))), ("last 2", ((0, 1), None, None))):
            with self.subTest(goal=goal):
                behind = list(pieces)
                behind[0::2] = ends
                self.check(book_of(["call it on 0 of 2"], others=[("it", goal)]), 5, tuple(behind))

    def test_calls_on_noughts_and_on_what_is_spoilt(self):
        others = [("all", "all"), ("before", "before"), ("two", "last 2")]
        cleared = (NOUGHT, (1, 2), (2, 3), NOUGHT, (4, 5), (5, 6))
        self.check(book_of(["clear 0 of 3", "call two on 0 of 1"], others=others), 6, cleared,
                   (NOUGHT, (1, 2), (1, 3), (2, 3), (4, 5), (4, 6)))
        self.check(book_of(["clear 0 of 3", "call all on 0 of 1"], others=others), 6, cleared,
                   (NOUGHT, (1, 2), (1, 3), (1, 3), None, None))
        spoilt = ((0, 1), (1, 2), None, (3, 4), (4, 5), None)
        self.check(book_of(["join 2 of 3 left 2", "call two on 0 of 1"], others=others), 6, spoilt,
                   ((0, 1), (0, 2), None, None, (3, 5), None))
        self.check(book_of(["join 2 of 3 left 2", "call before on 0 of 1"], others=others), 6, spoilt,
                   (NOUGHT, (0, 1), (0, 2), None, None, None))
        # What the first place of a called row holds is no part of what it gets for all before it.
        self.check(book_of(["join 2 of 3 left 2", "call before on 2 of 3"], others=others), 6, spoilt,
                   ((0, 1), (1, 2), NOUGHT, (3, 4), (4, 5), None))

    def test_calls_of_itself_of_one_below_and_of_one_above(self):
        down = plan("down", "before", 2, ("call top on 1 of 2", "call down on 2 of 3"))
        book = Book((plan("top", "all", 1, ("call down on 0 of 1", "call top on 1 of 2")), down))
        self.check(book, 4, (NOUGHT, (0, 1), (0, 2), (0, 3)), (NOUGHT, (0, 1), (0, 2), None))
        self.assertEqual(level(book, "down", 5)[1:], (((0, 1), (1, 2), (2, 3), None, (4, 5)),
                                                      ((0, 1), (1, 2), NOUGHT, None, (4, 5))))

    def test_calls_on_no_places(self):
        for goal, size in itertools.product(GOALS, (1, 2)):
            with self.subTest(goal=goal, size=size):
                pieces = ((0, 1), (1, 2))[:size]
                book = book_of(["call it on 2 of 3"], others=[("it", goal)])
                self.check(book, size, pieces)
        self.check(book_of(["call it on 1 of 2; call it on 0 of 2"], others=[("it", "before")]), 1, (NOUGHT,))

    def test_neither_bases_nor_rounds_of_called_plans_matter(self):
        for base, rounds in itertools.product((1, 2, 3, 4), (("clear 0 of 1",), ("join 0 of 1 right 4",) * 5)):
            book = Book((plan("top", "all", base, ("call it on 0 of 1",)), plan("it", "last 2", base, rounds)))
            with self.subTest(base=base, rounds=rounds):
                self.check(book, 4, ((0, 1), (0, 2), (1, 3), (2, 4)))

    def test_lengths_up_to_the_base_are_done_round_by_round_too(self):
        for base, size in itertools.product((1, 2, 3, 4), (1, 2, 3, 4)):
            with self.subTest(base=base, size=size):
                book = book_of(["clear 0 of 1", "take 0 of 1 left 1"], base=base)
                self.check(book, size, (NOUGHT,) * size, (NOUGHT,) * size)

    def test_like_the_model_for_all_short_plans(self):
        for book in short_books():
            for size in (1, 2, 4, 7):
                with self.subTest(book=str(book), size=size):
                    self.assertEqual(level(book, "top", size), model_level(book, "top", size))

    def test_like_the_model_for_many_books(self):
        for book in some_books(seed=1, many=150):
            for name, size in itertools.product(book.names, (1, 2, 3, 4, 5, 6, 9, 14, 23)):
                with self.subTest(book=str(book), name=name, size=size):
                    self.assertEqual(level(book, name, size), model_level(book, name, size))
                    self.assertIs(holds(book, name, size), model_wrong(book, name, size) is None)

    def test_like_the_model_for_long_rows(self):
        for book in some_books(seed=2, many=12) + [Book((UP, THREE))]:
            for name in book.names:
                with self.subTest(book=str(book), name=name):
                    self.assertEqual(level(book, name, 100), model_level(book, name, 100))

    def test_tuples_of_tuples_of_integers(self):
        for words in level(Book((UP, THREE)), "three", 4):
            self.assertIs(type(words), tuple)
            for word in words:
                if word is not None:
                    self.assertEqual([type(word), *map(type, word)], [tuple, int, int])


class HoldsTest(unittest.TestCase):

    def test_up_to_the_base_whatever_the_rounds_do(self):
        for base, goal, text in itertools.product((1, 2, 3, 4), GOALS, ("clear 0 of 1", "join 0 of 1 left 1",
                                                                         "call top on 0 of 2")):
            book = book_of(["clear 0 of 1", text], goal, base)
            for size in (1, 2, 3, 4, 5, 6, 100):
                with self.subTest(base=base, goal=goal, size=size):
                    self.assertIs(holds(book, "top", size), size <= base)

    def test_each_goal_behind_the_base(self):
        for goal, other in itertools.product(GOALS, repeat=2):
            book = book_of(["call it on 0 of 1"], goal, 1, [("it", other)])
            for size in (2, 3, 4, 5, 6, 100):
                pieces = [(place,) for place in range(size)]
                with self.subTest(goal=goal, other=other, size=size):
                    self.assertIs(holds(book, "top", size), told(goal, pieces) == told(other, pieces))

    def test_just_as_the_level_says(self):
        for book in some_books(seed=3, many=60):
            for name, size in itertools.product(book.names, (1, 2, 3, 4, 5, 8, 13)):
                goal, base = book.plan(name)[1:3]
                right = tuple(as_run(word) for word in told(goal, [(place,) for place in range(size)]))
                with self.subTest(book=str(book), name=name, size=size):
                    self.assertIs(holds(book, name, size), size <= base or level(book, name, size)[-1] == right)

    def test_one_wrong_place_is_enough(self):
        # At the last place only, at the first one only, and only at rows of odd length.
        self.assertFalse(holds(book_of(["join 1 of 2 left 1", "take 0 of 2 right 4"], "last 1"), "top", 2))
        book = book_of(["take 0 of 2 right 1; take 1 of 2 left 1", "take 0 of 2 right 1; take 1 of 2 left 1"], "last 1")
        for size in range(2, 101):
            with self.subTest(size=size):
                self.assertIs(holds(book, "top", size), size % 2 == 0)

    def test_what_holds_for_long_rows(self):
        book = Book((UP, THREE))
        for size in range(1, 101):
            self.assertIs(holds(book, "up", size), True)
            self.assertIs(holds(book, "three", size), size <= 2)


class ArgumentsTest(unittest.TestCase):

    def setUp(self):
        self.book = Book((UP, THREE))

    def check_raised(self, error, given, *arguments):
        for call in (level, holds):
            with self.assertRaises(error) as held:
                call(*arguments)
            self.assertIs(type(held.exception), error)
            self.assertIs(held.exception.given, given)

    def test_by_position_and_by_name(self):
        for size in (1, 2, 3, 100):
            self.assertEqual(level(book=self.book, name="up", size=size), level(self.book, "up", size))
            self.assertIs(holds(size=size, name="three", book=self.book), holds(self.book, "three", size))

    def test_no_books(self):
        for given in NO_BOOKS:
            with self.subTest(given=given):
                self.check_raised(NotABook, given, given, "up", 3)

    def test_no_names_of_plans_of_the_book(self):
        for given in NO_STRINGS + BAD_NAMES + GOOD_NAMES + ("u", "upp", "thre", UP, THREE, self.book, ("up", "three")):
            with self.subTest(given=given):
                self.check_raised(UnknownPlan, given, self.book, given, 3)

    def test_no_sizes(self):
        for given in BAD_SIZES + (self.book, (3,), "3", "three"):
            with self.subTest(given=given):
                self.check_raised(InvalidCount, given, self.book, "up", given)

    def test_the_first_error_in_the_order_of_the_arguments(self):
        self.check_raised(NotABook, None, None, None, None)
        self.check_raised(NotABook, "up", "up", "no", 0)
        self.check_raised(NotABook, "up", "up", "up", 0)
        self.check_raised(UnknownPlan, "no", self.book, "no", 0)
        self.check_raised(UnknownPlan, 3, self.book, 3, "up")
        self.check_raised(InvalidCount, 0, self.book, "up", 0)
        # The number of places is looked at where the plan holds anyway, too.
        self.check_raised(InvalidCount, 0, self.book, "three", 0)
        self.check_raised(InvalidCount, -1, self.book, "three", -1)
        self.check_raised(InvalidCount, True, self.book, "three", True)

    def test_sizes_up_to_100(self):
        for size in (1, 99, 100):
            self.assertEqual([len(words) for words in level(self.book, "up", size)], [size] * 4)
            self.assertIs(holds(self.book, "up", size), True)

    def test_calls_change_nothing_and_return_the_same_again(self):
        for book in some_books(seed=4, many=20):
            text, plans = str(book), book.plans
            for name, size in itertools.product(book.names, (1, 5, 12)):
                first, held = level(book, name, size), holds(book, name, size)
                self.assertEqual(level(Book.read(text), name, size), first)
                self.assertEqual(level(book, name, size), first)
                self.assertIs(holds(book, name, size), held)
            self.assertEqual((str(book), book.plans), (text, plans))
            self.assertIs(book.plans, plans)

    def test_defined_where_they_are_listed(self):
        self.assertEqual((level.__module__, holds.__module__), ("joinrounds.levels",) * 2)
        self.assertEqual(levels.MOST_LEVEL, 100)


if __name__ == "__main__":
    unittest.main()
