"""joins and rounds: how many of them the leading of plans takes."""

import itertools
import subprocess
import sys
import unittest

from joinrounds.books import Book
from joinrounds.counts import joins, rounds
from joinrounds.errors import InvalidCount, NotABook, UnknownPlan
from joinrounds.limits import MOST_SIZE
from tests.model import CLAUSE, model_counts, some_books
from tests.samples import (BAD_NAMES, BOTH_TEXT, CLASSES, GOALS, GOOD_NAMES, NO_INTEGERS, NO_STRINGS, SOUND_TEXTS, THREE,
                           UP, WRONG_TEXTS, plain_clauses, plan)

NO_BOOKS = NO_STRINGS + ("", "up", UP, (UP,), [UP], BOTH_TEXT, Book, Book((UP,)).plans, ValueError("up"))
BAD_SIZES = NO_INTEGERS + (0, -1, -2, -10 ** 12, 10 ** 12 + 1, 2 * 10 ** 12, 10 ** 39, -10 ** 39)
GREAT = sorted({size + more for size in (10 ** 12, 2 ** 39, 2 ** 20, 3 ** 25, 3 ** 12, 2 ** 20 * 3 ** 12, 10 ** 9 + 7)
                for more in (-2, -1, 0, 1, 2) if size + more <= 10 ** 12})


def many_below(limit, rest, many):
    """How many places below a limit leave this rest."""
    return max(0, (limit - rest + many - 1) // many)


def far_counts(book, name, size, known):
    """What model_counts returns, reckoned instead of counted, so that lengths may be great."""
    if (name, size) not in known:
        goal, base, texts = book.plan(name)[1:]
        if size <= base:
            return model_counts(book, name, size)
        total = duration = 0
        for text in texts:
            lasted = []
            for part in text.split("; "):
                deed, called, rest, many, side, far = CLAUSE.fullmatch(part).groups()
                rest, many, far = int(rest), int(many), int(far or 0)
                there = many_below(size, rest, many)
                lasted.append(1)
                if deed == "call":
                    more, lasted[-1] = far_counts(book, called, there, known) if there else (0, 0)
                    total += more
                elif deed == "join":
                    reading = there - many_below(min(far, size), rest, many)
                    total += reading if side == "left" else many_below(size - far, rest, many)
            duration += max(lasted)
        known[name, size] = total, duration
    return known[name, size]


def log_up(size):
    """How often a length has to be halved, upwards, until it is 1."""
    return (size - 1).bit_length()


class CountsTest(unittest.TestCase):

    def check(self, book, name, size, many_joins, many_rounds):
        for call, many in ((joins, many_joins), (rounds, many_rounds)):
            found = call(book, name, size)
            self.assertEqual(found, many)
            self.assertIs(type(found), int)

    def check_like_the_model(self, book, sizes):
        known = {}
        for name, size in itertools.product(book.names, sizes):
            with self.subTest(book=str(book), name=name, size=size):
                self.check(book, name, size, *model_counts(book, name, size, known))

    def check_row(self, text, *pairs, others=()):
        """Counts one round at the lengths from 2 on, in a plan whose base is 1."""
        book = Book((plan("top", "last 1", 1, (text,)), *others))
        for size, (many_joins, many_rounds) in enumerate(pairs, start=2):
            with self.subTest(text=text, size=size):
                self.check(book, "top", size, many_joins, many_rounds)

    def test_joins_are_counted_where_there_is_a_place_to_read_from(self):
        self.check_row("join 0 of 1 left 1", (1, 1), (2, 1), (3, 1), (4, 1))
        self.check_row("join 0 of 1 right 1", (1, 1), (2, 1), (3, 1), (4, 1))
        self.check_row("join 0 of 1 left 4", (0, 1), (0, 1), (0, 1), (1, 1), (2, 1))
        self.check_row("join 0 of 1 right 4", (0, 1), (0, 1), (0, 1), (1, 1), (2, 1))
        self.check_row("join 0 of 2 left 1", (0, 1), (1, 1), (1, 1), (2, 1), (2, 1), (3, 1))
        self.check_row("join 0 of 2 left 2", (0, 1), (1, 1), (1, 1), (2, 1), (2, 1), (3, 1))
        self.check_row("join 0 of 2 left 3", (0, 1), (0, 1), (0, 1), (1, 1), (1, 1), (2, 1))
        self.check_row("join 0 of 2 right 1", (1, 1), (1, 1), (2, 1), (2, 1), (3, 1))
        self.check_row("join 1 of 2 right 1", (0, 1), (1, 1), (1, 1), (2, 1), (2, 1))
        self.check_row("join 2 of 3 left 3", (0, 1), (0, 1), (0, 1), (0, 1), (1, 1), (1, 1), (1, 1), (2, 1))
        self.check_row("join 2 of 3 right 2", (0, 1), (0, 1), (0, 1), (1, 1), (1, 1), (1, 1), (2, 1))

    def test_a_round_without_calls_is_one_round_and_only_joins_are_joins(self):
        for text in ("take 0 of 1 left 1", "take 0 of 2 right 4", "clear 0 of 1", "clear 2 of 3", "take 1 of 3 left 3",
                     "clear 0 of 3; take 1 of 3 left 1; take 2 of 3 right 2", "clear 0 of 2; clear 1 of 2"):
            self.check_row(text, *[(0, 1)] * 10)

    def test_whether_words_become_others_does_not_matter(self):
        # Behind the first round all are the nought, and joins of it are joins all the same.
        book = Book((plan(base=1, rounds=("clear 0 of 1",) + ("join 0 of 1 left 1",) * 4),))
        self.check(book, "up", 10, 36, 5)
        # Behind these rounds nearly all is spoilt.
        book = Book((plan(base=1, rounds=("join 0 of 1 left 4",) * 5),))
        self.check(book, "up", 10, 30, 5)
        self.check(book, "up", 4, 0, 5)

    def test_several_clauses_and_rounds_add_up(self):
        self.check_row("join 0 of 2 left 1; join 1 of 2 left 2", (0, 1), (1, 1), (2, 1), (3, 1), (4, 1))
        self.check_row("join 0 of 3 left 1; take 1 of 3 left 2; join 2 of 3 right 1", (0, 1), (0, 1), (2, 1), (2, 1), (2, 1))
        texts = ("join 0 of 2 left 1", "clear 0 of 1", "join 0 of 1 right 3", "join 2 of 3 left 2; join 0 of 3 left 1")
        self.check(Book((plan(base=4, rounds=texts),)), "up", 5, 2 + 2 + 2, 4)
        self.check(Book((plan(base=4, rounds=texts),)), "up", 9, 4 + 6 + 3 + 2, 4)

    def test_plain_rows(self):
        told_of = {"all": ((0, 0), (1, 1), (3, 2), (6, 3)), "before": ((0, 0), (0, 0), (1, 1), (3, 2)),
                   "last 1": ((0, 0), (0, 0), (0, 0), (0, 0)), "last 2": ((0, 0), (1, 1), (2, 1), (3, 1)),
                   "last 3": ((0, 0), (1, 1), (3, 2), (5, 2)), "last 4": ((0, 0), (1, 1), (3, 2), (6, 3))}
        for goal, base, size in itertools.product(GOALS, (1, 2, 3, 4), (1, 2, 3, 4)):
            book = Book((plan("a", goal, base, ("clear 0 of 1",) * 5),))
            with self.subTest(goal=goal, base=base, size=size):
                self.check(book, "a", size, *(told_of[goal][size - 1] if size <= base else (0, 5)))

    def test_called_rows_that_are_plain(self):
        told_of = {"all": (6, 3), "before": (3, 2), "last 1": (0, 0), "last 2": (3, 1), "last 3": (5, 2), "last 4": (6, 3)}
        for goal, pair in told_of.items():
            low = plan("low", goal, 4, ("clear 0 of 1",))
            for size, text in ((7, "call low on 0 of 2"), (8, "call low on 1 of 2"), (12, "call low on 2 of 3"),
                               (4, "call low on 0 of 1")):
                self.check(Book((plan("top", "all", 1, (text,)), low)), "top", size, *pair)

    def test_calls_take_as_many_rounds_as_the_greatest(self):
        low, high = plan("low", "all", 4, ("clear 0 of 1",)), plan("high", "last 1", 1, ("join 0 of 1 left 1",) * 5)
        for text in ("call low on 0 of 2; call high on 1 of 2", "call high on 1 of 2; call low on 0 of 2"):
            book = Book((plan("top", "all", 1, (text,)), low, high))
            self.check(book, "top", 2, 0, 0)
            self.check(book, "top", 3, 1, 1)
            self.check(book, "top", 4, 1 + 5, 5)
            self.check(book, "top", 7, 6 + 10, 5)
            self.check(book, "top", 8, 6 + 15, 5)
            self.check(book, "top", 10, 0 + 20, 5)
        book = Book((plan("top", "all", 1, ("call low on 0 of 3; call high on 1 of 3; call low on 2 of 3",) * 2), low, high))
        self.check(book, "top", 12, 2 * (6 + 15 + 6), 10)

    def test_calls_on_no_places_take_nothing(self):
        low = plan("low", "all", 1, ("clear 0 of 1", "join 0 of 1 left 1"))
        self.check_row("call low on 2 of 3", (0, 0), (0, 0), (0, 0), (0, 0), (1, 2), (1, 2), (1, 2), (2, 2), others=(low,))
        self.check_row("call low on 1 of 2", (0, 0), (0, 0), (1, 2), (1, 2), (2, 2), others=(low,))
        self.check_row("call low on 1 of 3; call low on 2 of 3", (0, 0), (0, 0), (0, 0), (1, 2), (2, 2), others=(low,))

    def test_calls_of_the_plan_itself(self):
        for size in range(1, 65):
            depth = log_up(size)
            halves = Book((plan("h", "all", 1, ("call h on 0 of 2; call h on 1 of 2", "join 0 of 1 left 1")),))
            self.assertEqual(rounds(halves, "h", size), depth)
            again = Book((plan("h", "all", 1, ("call h on 0 of 2", "call h on 0 of 2", "clear 0 of 1")),))
            self.check(again, "h", size, 0, 2 ** depth - 1)
        self.assertEqual([rounds(Book((UP,)), "up", size) for size in range(1, 10)], [0, 2, 2, 4, 4, 4, 4, 6, 6])
        self.assertEqual([joins(Book((UP,)), "up", size) for size in range(1, 10)], [0, 1, 2, 4, 5, 7, 8, 11, 12])

    def test_calls_of_plans_further_down_and_further_up(self):
        down = plan("down", "all", 1, ("join 1 of 2 left 1", "call top on 1 of 2"))
        book = Book((plan("top", "all", 2, ("call down on 0 of 1", "take 0 of 2 left 1")), down))
        self.check(book, "top", 2, 1, 1)
        self.check(book, "down", 2, 1, 1)
        self.check(book, "top", 3, 1, 2)
        self.check(book, "top", 4, 2 + 1, 1 + 1 + 1)
        self.check(book, "down", 4, 2 + 1, 1 + 1)
        self.check(book, "top", 8, 4 + 3, 1 + 3 + 1)
        chain = [plan(name, "all", 1, (f"call {other} on 0 of 1",) * 2) for name, other in ("ab", "bc", "cd")]
        book = Book((*chain, plan("d", "all", 1, ("join 0 of 1 left 1", "call a on 0 of 3"))))
        self.assertEqual([rounds(book, "a", size) for size in (1, 2, 3, 4, 9, 10, 27)], [0, 8, 8, 72, 72, 584, 584])
        self.assertEqual([joins(book, "a", size) for size in (1, 2, 3, 4, 9)], [0, 8, 16, 8 * (3 + 8), 8 * (8 + 16)])

    def test_plain_rows_of_the_base_that_the_called_plan_has(self):
        low = plan("low", "all", 4, ("clear 0 of 1",))
        book = Book((plan("top", "all", 1, ("call low on 0 of 1",)), low))
        self.check(book, "top", 1, 0, 0)
        self.check(book, "top", 4, 6, 3)
        self.check(book, "top", 5, 0, 1)

    def test_the_plans_are_told_apart_by_their_names(self):
        book = Book((UP, THREE))
        self.check(book, "three", 2, 1, 1)
        self.check(book, "three", 3, 4, 2)
        self.check(book, "up", 3, 2, 2)

    def test_like_the_model_for_each_clause(self):
        for kind in CLASSES:
            for base, text in itertools.product((1, 3), [*plain_clauses(kind), f"call low on {kind}"]):
                low = plan("low", "last 3", 2, ("join 0 of 2 left 1", "call low on 1 of 3"))
                self.check_like_the_model(Book((plan("top", "before", base, (text,)), low)), range(1, 20))

    def test_like_the_model_for_many_books(self):
        for text in [*SOUND_TEXTS, *(text for text, told_of in WRONG_TEXTS)]:
            self.check_like_the_model(Book.read(text), range(1, 60))
        for calls in (3, 6, 9):
            for book in some_books(seed=40 + calls, many=60, calls=calls):
                self.check_like_the_model(book, (*range(1, 20), 26, 27, 28, 31, 32, 33, 64, 100))


class GreatTest(unittest.TestCase):

    def test_formulas(self):
        for power in range(1, 40):
            size = 2 ** power
            book = Book((UP, THREE))
            self.assertEqual((joins(book, "up", size), rounds(book, "up", size)), (2 * size - 2 - power, 2 * power))
            halves = Book((plan("h", "all", 1, ("call h on 0 of 2; call h on 1 of 2", "join 0 of 1 left 1")),))
            self.assertEqual((joins(halves, "h", size), rounds(halves, "h", size)), (size * power - size + 1, power))
            many = Book((plan("h", "all", 1, ("call h on 1 of 2",) * 4 + ("take 0 of 1 left 1",)),))
            self.assertEqual((joins(many, "h", size), rounds(many, "h", size)), (0, (4 ** power - 1) // 3))
        for power in range(1, 26):
            size = 3 ** power
            thirds = Book((plan("t", "all", 1, ("call t on 0 of 3; call t on 1 of 3; call t on 2 of 3", "join 0 of 1 left 3")),))
            self.assertEqual(joins(thirds, "t", size), sum(3 ** at * max(0, size // 3 ** at - 3) for at in range(power)))
            self.assertEqual([rounds(thirds, "t", size + more) for more in (-1, 0, 1)], [power, power, power + 1])

    def test_the_greatest_length(self):
        book = Book((plan("a", "all", 1, ("join 0 of 1 left 1", "join 0 of 2 right 4", "take 0 of 1 left 1")),))
        self.assertEqual(joins(book, "a", 10 ** 12), 10 ** 12 - 1 + 5 * 10 ** 11 - 2)
        self.assertEqual(joins(book, "a", 10 ** 12 - 1), 10 ** 12 - 2 + 5 * 10 ** 11 - 2)
        self.assertEqual([rounds(book, "a", size) for size in (10 ** 12, 10 ** 12 - 1)], [3, 3])
        self.assertEqual(MOST_SIZE, 10 ** 12)

    def test_like_the_model_for_many_books(self):
        for at, book in enumerate([Book.read(text) for text in SOUND_TEXTS] + some_books(seed=51, many=25, calls=8)):
            known = {}
            for name, size in itertools.product(book.names, GREAT[at % 8::8]):
                with self.subTest(book=str(book), name=name, size=size):
                    self.assertEqual((joins(book, name, size), rounds(book, name, size)), far_counts(book, name, size, known))

    def test_what_is_reckoned_is_what_is_counted(self):
        for book in some_books(seed=52, many=25, calls=8):
            known, other = {}, {}
            for name, size in itertools.product(book.names, range(1, 50)):
                self.assertEqual(far_counts(book, name, size, known), model_counts(book, name, size, other))

    def test_plans_that_call_themselves_often_are_answered_soon(self):
        # Without an end if each call were followed: another process can be given up.
        program = (
            "from joinrounds.books import Book\n"
            "from joinrounds.counts import joins, rounds\n"
            "down = [(name, 'all', 1, (f'call {other} on 0 of 1',) * 5) for name, other in ('ab', 'bc', 'cd')]\n"
            "low = ('call a on 0 of 2; call a on 1 of 2', 'call a on 0 of 3; call b on 1 of 3; call c on 2 of 3',\n"
            "       'call b on 0 of 2; call d on 1 of 2', 'join 0 of 1 left 3', 'call d on 2 of 3; call a on 1 of 3')\n"
            "book = Book((*down, ('d', 'before', 2, low)))\n"
            "for size in (10 ** 12, 10 ** 12 - 1, 2 ** 39, 2 ** 39 - 1, 2 ** 39 + 1, 3 ** 25, 3 ** 25 - 1, 3 ** 25 + 1):\n"
            "    for name in book.names:\n"
            "        print(joins(book, name, size), rounds(book, name, size))\n")
        done = subprocess.run([sys.executable, "-c", program], capture_output=True, text=True, timeout=120, check=True)
        down = [plan(name, "all", 1, (f"call {other} on 0 of 1",) * 5) for name, other in ("ab", "bc", "cd")]
        low = ("call a on 0 of 2; call a on 1 of 2", "call a on 0 of 3; call b on 1 of 3; call c on 2 of 3",
               "call b on 0 of 2; call d on 1 of 2", "join 0 of 1 left 3", "call d on 2 of 3; call a on 1 of 3")
        book, known = Book((*down, plan("d", "before", 2, low))), {}
        sizes = (10 ** 12, 10 ** 12 - 1, 2 ** 39, 2 ** 39 - 1, 2 ** 39 + 1, 3 ** 25, 3 ** 25 - 1, 3 ** 25 + 1)
        right = [far_counts(book, name, size, known) for size in sizes for name in book.names]
        self.assertEqual([tuple(map(int, line.split())) for line in done.stdout.splitlines()], right)


class ArgumentsTest(unittest.TestCase):

    def setUp(self):
        self.book = Book((UP, THREE))

    def check_raised(self, error, given, *arguments):
        for call in (joins, rounds):
            with self.assertRaises(error) as held:
                call(*arguments)
            self.assertIs(type(held.exception), error)
            self.assertIs(held.exception.given, given)

    def test_by_name(self):
        self.assertEqual(joins(size=8, name="up", book=self.book), 11)
        self.assertEqual(joins(self.book, size=8, name="up"), 11)
        self.assertEqual(rounds(name="up", book=self.book, size=8), 6)
        self.assertEqual(rounds(self.book, "up", size=8), 6)

    def test_no_books(self):
        for given in NO_BOOKS:
            with self.subTest(given=given):
                self.check_raised(NotABook, given, given, "up", 1)
                self.check_raised(NotABook, given, given, None, None)

    def test_no_names_of_plans_of_the_book(self):
        for given in NO_STRINGS + BAD_NAMES + GOOD_NAMES + ("u", "upp", UP, self.book, ("up",)):
            with self.subTest(given=given):
                self.check_raised(UnknownPlan, given, self.book, given, 1)
                self.check_raised(UnknownPlan, given, self.book, given, 0)

    def test_no_lengths(self):
        for given in BAD_SIZES:
            with self.subTest(given=given):
                self.check_raised(InvalidCount, given, self.book, "up", given)

    def test_the_least_and_the_greatest_length_are_right(self):
        for name in ("up", "three"):
            self.assertEqual((joins(self.book, name, 1), rounds(self.book, name, 1)), (0, 0))
        self.assertEqual((joins(self.book, "three", 10 ** 12), rounds(self.book, "three", 10 ** 12)), (2 * 10 ** 12 - 2, 2))

    def test_calls_change_nothing_and_return_the_same_again(self):
        for book in some_books(seed=53, many=20):
            text, plans = str(book), book.plans
            for name, size, call in itertools.product(book.names, (1, 7, 100, 10 ** 12), (joins, rounds)):
                first = call(book, name, size)
                self.assertEqual(call(book, name, size), first)
                self.assertEqual(call(Book.read(text), name, size), first)
            self.assertEqual(str(book), text)
            self.assertIs(book.plans, plans)

    def test_defined_where_they_are_listed(self):
        for call in (joins, rounds):
            self.assertEqual(call.__module__, "joinrounds.counts")


if __name__ == "__main__":
    unittest.main()
