"""Rows of texts, led round by round."""

import itertools
import unittest

from joinrounds.books import Book
from joinrounds.errors import InvalidPieces, IsOver, NotABook, TooLong, UnknownPlan
from joinrounds.rows import Row
from joinrounds.verdicts import is_sound
from tests.model import Log, growing_books, model_led_round, model_words, some_books, told
from tests.samples import (BAD_NAMES, BOTH_TEXT, FOUR_TEXT, GOALS, GOOD_NAMES, NO_STRINGS, SOUND_TEXTS, THREE, UP,
                           WRONG_TEXTS, plan)

TWELVE = tuple("abcdefghijkl")
NO_BOOKS = NO_STRINGS + ("", "up", UP, (UP,), [UP], BOTH_TEXT, Book, Book((UP,)).plans, ValueError("up"))
NO_TUPLES = tuple(one for one in NO_STRINGS if not isinstance(one, tuple)) + ("", "a", "abc", ["a"], ["a", "b"], {"a"})
BAD_PIECES = NO_STRINGS + ("", "abcde", "aaaaaaaaaaaa", "A", "aB", "abC", "1", "a1", "a ", " a", " ", "a b", "a\n", "\n",
                           "a-b", "{", "`", "a_", ("a",), ["a"])
METHODS = ("book", "name", "words", "done", "is_over", "due", "after", "last")


def book_of(rounds, goal="all", base=1, others=()):
    """A book whose first plan is called top; the others are tuples of plans."""
    return Book((plan("top", goal, base, tuple(rounds)), *others))


class RowCase(unittest.TestCase):

    def check_held(self, row, words, done, is_over):
        self.assertEqual((row.words, row.done, row.is_over), (words, done, is_over))
        self.assertEqual([type(row.words), type(row.done), type(row.is_over)], [tuple, int, bool])
        self.assertEqual({type(word) for word in row.words}, {str})

    def check_over(self, row):
        for again in range(2):
            with self.assertRaises(IsOver) as held:
                row.after()
            self.assertIs(type(held.exception), IsOver)
            self.assertEqual(row.last(), row)

    def check_too_long(self, row):
        before = (row.words, row.done, row.is_over)
        for call in (row.after, row.last, row.after):
            with self.assertRaises(TooLong) as held:
                call()
            self.assertIs(type(held.exception), TooLong)
            self.assertEqual((held.exception.most, type(held.exception.most)), (1000, int))
        self.assertEqual((row.words, row.done, row.is_over), before)

    def check_led(self, book, name, pieces, *behind):
        """The words behind each round in turn, None where it is too long."""
        row = Row(book, name, pieces)
        due = tuple(told(book.plan(name)[1], pieces, "".join))
        self.check_held(row, pieces, 0, False)
        rows = [row]
        for done, words in enumerate(behind, 1):
            if words is None:
                self.check_too_long(row)
                break
            row = row.after()
            rows.append(row)
            self.check_held(row, words, done, done == len(behind))
        else:
            self.check_over(row)
        for done, one in enumerate(rows):
            self.assertEqual((one.book, one.name, one.due, type(one.due)), (book, name, due, tuple))
            self.assertEqual(repr(one), f"Row of {len(pieces)} places behind {done} rounds")
            # The rows that were asked are as they were.
            self.assertEqual((one.words, one.done), ((pieces, *behind)[done], done))
            if behind[-1] is None:
                with self.assertRaises(TooLong) as held:
                    one.last()
                self.assertEqual(held.exception.most, 1000)
            else:
                self.assertEqual(one.last(), rows[-1])
                self.check_held(one.last(), behind[-1], len(behind), True)


class LeadingTest(RowCase):

    def test_plans_without_calls(self):
        self.check_led(Book((THREE,)), "three", ("a", "b", "c"), ("a", "ab", "bc"), ("a", "aab", "abbc"))
        self.check_led(Book.read(FOUR_TEXT), "four", ("ab", "c", "d", "efgh", "i"),
                       ("ab", "abc", "cd", "defgh", "efghi"), ("ab", "abc", "abcd", "abcdefgh", "cdefghi"))
        self.check_led(book_of(["join 0 of 1 right 2"]), "top", ("a", "b", "c"), ("ac", "b", "c"))
        self.check_led(book_of(["take 0 of 2 right 1; take 1 of 2 left 1"]), "top", ("a", "b", "c"), ("b", "a", ""))
        self.check_led(book_of(["take 1 of 3 left 2; clear 0 of 3; join 2 of 3 right 4"]), "top", TWELVE[:7],
                       ("", "", "cg", "", "c", "f", ""))

    def test_all_places_change_at_once(self):
        self.check_led(book_of(["join 0 of 1 left 1"]), "top", ("a", "b", "c", "d"), ("a", "ab", "bc", "cd"))
        self.check_led(book_of(["join 0 of 1 right 1"]), "top", ("a", "b", "c", "d"), ("ab", "bc", "cd", "d"))
        self.check_led(book_of(["clear 0 of 2; join 1 of 2 left 1"]), "top", ("a", "b", "c", "d"), ("", "ab", "", "cd"))

    def test_the_nought_is_the_empty_text(self):
        book = book_of(["clear 0 of 1", "join 0 of 1 left 1", "take 0 of 1 right 1"])
        self.check_led(book, "top", ("a", "b"), ("", ""), ("", ""), ("", ""))
        self.check_led(book_of(["take 0 of 1 left 1", "join 0 of 1 right 1"]), "top", ("a", "b", "c"),
                       ("", "a", "b"), ("a", "ab", "b"))

    def test_a_call_of_the_plan_itself(self):
        self.check_led(Book((UP,)), "up", ("a", "b", "c", "d", "e"), ("a", "ab", "c", "cd", "e"),
                       ("a", "ab", "c", "abcd", "e"), ("a", "ab", "abc", "abcd", "abcde"))

    def test_a_call_of_one_further_down(self):
        low = plan("low", "before", 4, ("clear 0 of 1",))
        self.check_led(book_of(["call low on 0 of 1", "call low on 1 of 2"], others=[low]), "top", ("a", "b", "c"),
                       ("", "a", "ab"), ("", "", "ab"))
        # The rounds of the called plan count, not its goal, on more places than its base.
        low = plan("low", "all", 2, ("join 0 of 1 left 1",))
        self.check_led(book_of(["call low on 0 of 1"], others=[low]), "top", ("a", "b", "c"), ("a", "ab", "bc"))
        self.check_led(book_of(["call low on 0 of 1"], others=[low]), "top", ("a", "b"), ("a", "ab"))
        self.check_led(book_of(["call low on 0 of 2"], others=[low]), "top", tuple("abcdef"), ("a", "b", "ac", "d", "ce", "f"))

    def test_a_call_of_one_further_up_on_a_part_of_the_places(self):
        low = plan("low", "last 2", 1, ("call top on 1 of 3; call low on 0 of 3",))
        book = book_of(["join 0 of 1 right 1"], base=2, others=[low])
        self.check_led(book, "low", tuple("abcdefgh"), ("a", "be", "c", "d", "eh", "f", "g", "h"))
        self.check_led(book, "low", tuple("abcde"), ("a", "b", "c", "d", "be"))

    def test_calls_on_no_places(self):
        low = plan("low", "all", 1, ("clear 0 of 1",))
        book = book_of(["call low on 2 of 3", "join 0 of 1 left 1", "call low on 2 of 3; call top on 1 of 3"], others=[low])
        self.check_led(book, "top", ("a", "b"), ("a", "b"), ("a", "ab"), ("a", "ab"))

    def test_plain_rows_have_one_round(self):
        for goal, base in itertools.product(GOALS, (1, 2, 3, 4)):
            book = book_of(["clear 0 of 1", "clear 0 of 1"], goal, base)
            for size in range(1, 7):
                pieces = TWELVE[:size]
                words = tuple(told(goal, pieces, "".join)) if size <= base else ("",) * size
                with self.subTest(goal=goal, base=base, size=size):
                    self.check_led(book, "top", pieces, *[words] * (1 if size <= base else 2))

    def test_rows_of_one_and_of_twelve_places(self):
        self.check_led(Book((UP,)), "up", ("abcd",), ("abcd",))
        row = Row(Book((UP,)), "up", TWELVE).last()
        self.check_held(row, tuple("abcdefghijkl"[:end] for end in range(1, 13)), 3, True)

    def test_what_is_due(self):
        due = {"all": ("ab", "abc", "abcd", "abcde", "abcdef"), "before": ("", "ab", "abc", "abcd", "abcde"),
               "last 1": ("ab", "c", "d", "e", "f"), "last 2": ("ab", "abc", "cd", "de", "ef"),
               "last 3": ("ab", "abc", "abcd", "cde", "def"), "last 4": ("ab", "abc", "abcd", "abcde", "cdef")}
        for goal, texts in due.items():
            for base in (1, 4):
                row = Row(book_of(["clear 0 of 1", "take 0 of 1 left 1"], goal, base), "top", ("ab", "c", "d", "e", "f"))
                for one in (row, row.after(), row.last()):
                    self.assertEqual(one.due, texts)

    def test_repr_with_one_too(self):
        book = book_of(["clear 0 of 1", "clear 0 of 1"])
        row = Row(book, "top", ("a", "b"))
        self.assertEqual([repr(row), repr(row.after()), repr(row.last())],
                         [f"Row of 2 places behind {done} rounds" for done in (0, 1, 2)])
        row = Row(book, "top", ("a",))
        self.assertEqual([repr(row), repr(row.after())], ["Row of 1 places behind 0 rounds", "Row of 1 places behind 1 rounds"])
        self.assertEqual(repr(Row(book, "top", TWELVE)), "Row of 12 places behind 0 rounds")

    def test_like_the_model(self):
        books = [Book.read(text) for text in SOUND_TEXTS] + [Book.read(text) for text, told_of in WRONG_TEXTS]
        for book in books + some_books(seed=71, many=150, calls=3) + some_books(seed=72, many=150, calls=8):
            for name, size in itertools.product(book.names, (1, 2, 3, 5, 8, 12)):
                pieces = tuple(letter * (1 + place % 4) for place, letter in enumerate(TWELVE[:size]))
                with self.subTest(book=str(book), name=name, size=size):
                    self.check_led(book, name, pieces, *model_words(book, name, pieces))

    def test_like_the_model_where_rows_grow(self):
        ends = []
        for at, book in enumerate(growing_books(seed=75, many=80)):
            pieces = TWELVE[:5 + at % 8]
            with self.subTest(book=str(book), pieces=pieces):
                words = model_words(book, "a", pieces)
                self.check_led(book, "a", pieces, *words)
                ends.append(words[-1])
        # Both kinds often, with words that get too long and with too many called rows.
        for part in (ends[::2], ends[1::2]):
            self.assertTrue(5 < part.count(None) < 35, part.count(None))

    def test_sound_plans_do_what_is_due(self):
        books = [Book.read(text) for text in SOUND_TEXTS] + some_books(seed=73, many=400, calls=5)
        seen = 0
        for book in books:
            for name in book.names:
                if not is_sound(book, name):
                    continue
                seen += 1
                for size in range(1, 13):
                    row = Row(book, name, TWELVE[:size])
                    with self.subTest(book=str(book), name=name, size=size):
                        self.assertEqual(row.last().words, row.due)
        self.assertGreater(seen, len(SOUND_TEXTS) + 5)


# Each of two places that hold as much gets five times, or five hundred times as much.
FIVE = plan("five", "all", 1, ("join 1 of 2 left 1", "join 0 of 2 right 1", "join 0 of 2 right 1; join 1 of 2 left 1"))
TWICE = FIVE[3][2]
HALF = plan("half", "all", 1, ("call five on 0 of 1",) * 3 + (TWICE, TWICE))
# Of four places with one letter each these make 1, 500, 1 and 1000, the last ones of them 501, 500, 1001 and 1000.
ROUNDS = ("call half on 1 of 2", "join 1 of 2 left 2")
LONG_ROUNDS = (*ROUNDS, "join 0 of 2 right 1")
FOUR_PIECES = ("a", "b", "c", "d")


class TooLongTest(RowCase):

    def check_letters(self, rounds, pieces, many, *others):
        """How many letters the places hold at the end."""
        row = Row(book_of(rounds, others=(*others, HALF, FIVE)), "top", pieces).last()
        self.assertEqual([len(word) for word in row.words], many)

    def check_never(self, book, done, pieces):
        """The round behind so many others is the first one that is too long."""
        row = Row(book, "top", pieces)
        rows = [row]
        for at in range(done):
            row = row.after()
            rows.append(row)
        self.check_too_long(row)
        for one in rows:
            with self.assertRaises(TooLong) as held:
                one.last()
            self.assertEqual(held.exception.most, 1000)

    def check_long(self, rounds, done, pieces, *others):
        self.check_never(book_of(rounds, others=(*others, HALF, FIVE)), done, pieces)

    def test_just_a_thousand_letters(self):
        self.check_letters(("call half on 0 of 1",), ("a", "b"), [500, 500])
        self.check_letters(("call half on 0 of 1", TWICE), ("a", "b"), [1000, 1000])
        self.check_letters(("call half on 0 of 1",), ("ab", "cd"), [1000, 1000])
        self.check_letters(ROUNDS, FOUR_PIECES, [1, 500, 1, 1000])

    def test_a_thousand_and_one_letters(self):
        self.check_long(LONG_ROUNDS, 2, FOUR_PIECES)
        self.check_long((*ROUNDS, "join 1 of 2 left 1"), 2, FOUR_PIECES)
        self.check_long((*ROUNDS, "join 2 of 3 right 1", "clear 0 of 1"), 2, FOUR_PIECES)
        self.check_letters((*ROUNDS, "take 0 of 2 right 1"), FOUR_PIECES, [500, 500, 1000, 1000])
        self.check_letters((*ROUNDS, "clear 0 of 2", "join 0 of 1 right 1"), FOUR_PIECES, [500, 500, 1000, 1000])
        self.check_letters((*ROUNDS, "join 0 of 3 right 1"), FOUR_PIECES, [501, 500, 1, 1000])

    def test_many_more_letters(self):
        self.check_long(("call half on 0 of 1", "call half on 0 of 1"), 1, ("a", "b"))
        self.check_long(("call half on 0 of 1",), 0, ("abc", "def"))

    def test_in_a_called_row(self):
        low = plan("low", "all", 1, ROUNDS)
        self.check_letters(("call low on 0 of 1",), FOUR_PIECES, [1, 500, 1, 1000], low)
        low = plan("low", "all", 1, LONG_ROUNDS)
        self.check_long(("call low on 0 of 1",), 0, FOUR_PIECES, low)
        self.check_long(("join 1 of 2 right 4", "call low on 0 of 1"), 1, FOUR_PIECES, low)
        self.check_long(("call low on 1 of 2",), 0, tuple("abcdefgh"), low)

    def test_where_the_long_word_is_cleared_later(self):
        low = plan("low", "all", 1, (*LONG_ROUNDS, "clear 0 of 1"))
        self.check_long(low[3], 2, FOUR_PIECES)
        self.check_long(("call low on 0 of 1", "clear 0 of 1"), 0, FOUR_PIECES, low)
        low = plan("low", "all", 1, (*LONG_ROUNDS, "take 0 of 2 left 1"))
        self.check_long(("call low on 0 of 1",), 0, FOUR_PIECES, low)
        low = plan("low", "all", 1, (*ROUNDS, "take 0 of 2 right 1", "clear 0 of 1"))
        self.check_letters(("call low on 0 of 1",), FOUR_PIECES, [0, 0, 0, 0], low)

    def test_in_a_called_row_that_is_plain(self):
        low = plan("low", "all", 4, ("clear 0 of 1",))
        self.check_letters(("call half on 1 of 2", "clear 0 of 2", "call low on 0 of 1"), FOUR_PIECES, [0, 500, 500, 1000], low)
        self.check_long(("call half on 1 of 2", "clear 2 of 3", "call low on 0 of 1", "clear 0 of 1"), 2, FOUR_PIECES, low)
        low = plan("low", "last 2", 4, ("clear 0 of 1",))
        self.check_letters(("call half on 1 of 2", "call low on 0 of 1"), FOUR_PIECES, [1, 501, 501, 501], low)
        # The same with calls of a plan further up.
        low = plan("low", "all", 1, ("call half on 1 of 2", "clear 2 of 3", "call top on 0 of 2; call top on 1 of 2"))
        others = (low, HALF, FIVE)
        top = ("call low on 0 of 1",)
        self.assertEqual([len(word) for word in Row(book_of(top, "last 1", 4, others), "low", FOUR_PIECES).last().words],
                         [1, 500, 0, 500])
        self.check_too_long(Row(book_of(top, "all", 4, others), "low", ("ab", "cd", "e", "fg")).after().after())


# Leading d on six places calls 165 rows, c 332, and b 999; some calls in it are on no places.
D_CALLS = "call d on 0 of 3; call d on 1 of 3; call d on 2 of 3"
D = plan("d", "last 1", 1, (D_CALLS,) * 5)
C = plan("c", "last 1", 1, ("call d on 0 of 1",) * 2)
B = plan("b", "last 1", 2, ("call c on 0 of 1",) * 3)
SIX = tuple("abcdef")


class CalledRowsTest(RowCase):

    def book(self, rounds, b_more=(), c=C):
        return book_of(rounds, "last 1", 1, (plan("b", "last 1", 2, B[3] + b_more), c, D))

    def check_fine(self, book, pieces=SIX):
        many = len(book.plan("top")[3])
        self.check_led(book, "top", pieces, *[pieces] * many)

    def test_just_a_thousand_called_rows(self):
        self.check_fine(self.book(("call b on 0 of 1",)))
        # The same once more as the model has it.
        log = Log()
        model_led_round(self.book(("call b on 0 of 1",)), SIX, "call b on 0 of 1", "".join, log)
        self.assertEqual(log.called, 1000)

    def test_a_thousand_and_one_called_rows(self):
        book = self.book(("call b on 0 of 1",), ("call b on 2 of 3",))
        self.check_led(book, "top", SIX, None)
        self.check_led(self.book(("call b on 0 of 1", "call c on 0 of 1"), ("call top on 2 of 3",)), "top", SIX, None)
        # On one place fewer there are fewer rows.
        self.check_fine(book, SIX[:5])

    def test_called_rows_without_places_are_not_counted(self):
        # 90 of the thousand rows are of d on two places, and each round of these calls a row without places: 450 in all.
        self.check_fine(self.book(("call b on 0 of 1",) * 2))
        self.check_fine(self.book(("call b on 2 of 3", "call b on 2 of 3; call c on 0 of 3")), SIX[:2])

    def test_several_clauses_of_a_round_count_together(self):
        # On six places each c calls 499 rows, and so the two of them, themselves counted, are just a thousand.
        c = plan("c", "last 1", 2, ("call d on 0 of 1",) * 3 + ("call c on 2 of 3",))
        twelve = ("call c on 0 of 2; call c on 1 of 2",)
        self.check_fine(self.book(twelve * 2, c=c), TWELVE)
        more = plan("c", "last 1", 2, c[3] + ("call c on 1 of 3",))
        self.check_led(self.book(twelve, c=more), "top", TWELVE, None)
        self.check_fine(self.book(("call c on 0 of 2",), c=more), TWELVE)

    def test_the_count_begins_anew_with_each_round(self):
        self.check_fine(self.book(("call b on 0 of 1",) * 5))

    def test_last_raises_it_from_each_row_on_the_way(self):
        rounds = ("join 0 of 1 left 1", "call c on 0 of 1", "call b on 0 of 1", "clear 0 of 1")
        words = tuple("abcdef"[max(0, place - 1):place + 1] for place in range(6))
        self.check_led(self.book(rounds, ("call b on 2 of 3",)), "top", SIX, words, words, None)
        self.check_led(self.book(rounds), "top", SIX, words, words, words, ("",) * 6)

    def test_rows_without_an_end_soon(self):
        # Without a limit these would call far more rows than can be led.
        text = "call d on 0 of 2; call d on 1 of 2"
        deep = [plan(name, "last 1", 1, (f"call {other} on 0 of 1",) * 5) for name, other in ("ab", "bc", "cd")]
        book = Book((*deep, plan("d", "last 1", 1, (text,) * 5)))
        self.check_led(book, "a", TWELVE, None)


class EqualityTest(RowCase):

    def check_equal(self, row, other, equal):
        self.assertEqual([row == other, other == row, row != other, other != row], [equal, equal, not equal, not equal])
        self.assertEqual({type(one) for one in (row == other, row != other)}, {bool})

    def test_rows_made_alike_are_equal(self):
        book, other = Book((UP, THREE)), Book.read(BOTH_TEXT)
        row = Row(book, "up", FOUR_PIECES)
        self.check_equal(row, row, True)
        self.check_equal(row, Row(other, "up", tuple("abcd")), True)
        self.check_equal(row.after(), Row(other, "up", tuple("abcd")).after(), True)
        self.check_equal(row.last(), row.after().after().after(), True)

    def test_books(self):
        book = Book((UP, THREE))
        self.check_equal(Row(book, "up", ("a",)), Row(Book((UP,)), "up", ("a",)), False)
        self.check_equal(Row(book, "up", ("a",)), Row(Book((THREE, UP)), "up", ("a",)), False)
        self.check_equal(Row(book, "up", ("a",)), Row(book.changed("three", 0, "join 0 of 1 left 2"), "up", ("a",)), False)

    def test_names(self):
        book = Book((plan("a"), plan("b")))
        self.check_equal(Row(book, "a", ("a", "b")), Row(book, "b", ("a", "b")), False)
        self.check_equal(Row(book, "a", ("a", "b")).last(), Row(book, "b", ("a", "b")).last(), False)

    def test_words(self):
        book = book_of(["clear 0 of 1", "take 0 of 1 left 1"])
        self.check_equal(Row(book, "top", ("a", "b")), Row(book, "top", ("a", "c")), False)
        self.check_equal(Row(book, "top", ("a", "b")), Row(book, "top", ("a", "b", "c")), False)
        # What is due is the same for both, and the words are not.
        book = book_of(["take 0 of 1 right 1", "clear 0 of 1"], "before")
        row, other = Row(book, "top", ("a", "b")), Row(book, "top", ("a", "c"))
        self.assertEqual(row.due, other.due)
        self.check_equal(row, other, False)
        self.check_equal(row.after(), other.after(), False)

    def test_only_words_and_what_is_due_count_not_the_pieces(self):
        book = book_of(["take 0 of 1 right 1", "clear 0 of 1"], "before")
        self.check_equal(Row(book, "top", ("a", "b")).last(), Row(book, "top", ("a", "c")).last(), True)
        book = book_of(["take 1 of 2 left 1", "join 0 of 1 left 1"], "before")
        row, other = Row(book, "top", ("a", "b")), Row(book, "top", ("a", "c"))
        self.check_equal(row, other, False)
        self.check_equal(row.after(), other.after(), True)
        self.check_equal(row.after().last(), other.after().last(), True)

    def test_what_is_due(self):
        book = book_of(["clear 0 of 1"], "last 2")
        row, other = Row(book, "top", ("a", "b")), Row(book, "top", ("a", "c"))
        self.assertEqual(row.last().words, other.last().words)
        self.check_equal(row.last(), other.last(), False)

    def test_how_many_rounds_are_done(self):
        book = book_of(["join 0 of 1 left 4", "join 0 of 1 left 4"])
        row = Row(book, "top", ("a", "b"))
        self.assertEqual(row.words, row.last().words)
        for one, other in itertools.permutations((row, row.after(), row.last()), 2):
            self.check_equal(one, other, False)

    def test_other_classes(self):
        book = Book((UP,))
        row = Row(book, "up", ("a", "b"))
        for other in NO_STRINGS + (book, "up", ("a", "b"), (book, "up", ("a", "b")), repr(row), Row):
            self.assertIs(row == other, False)
            self.assertIs(row != other, True)
        self.check_equal(row, ("a", "b"), False)
        self.check_equal(row, book, False)

    def test_truth(self):
        for book in (Book((UP,)), book_of(["clear 0 of 1"])):
            row = Row(book, book.names[0], ("a", "b"))
            for one in (row, row.after(), row.last()):
                self.assertIs(bool(one), True)


class ArgumentsTest(RowCase):

    def setUp(self):
        self.book = Book((UP, THREE))

    def check_raised(self, error, given, *arguments):
        with self.assertRaises(error) as held:
            Row(*arguments)
        self.assertIs(type(held.exception), error)
        self.assertIs(held.exception.given, given)

    def check_pieces(self, index, pieces):
        for call in (lambda: Row(self.book, "up", pieces), lambda: Row(pieces=pieces, name="three", book=self.book)):
            with self.assertRaises(InvalidPieces) as held:
                call()
            self.assertIs(type(held.exception), InvalidPieces)
            self.assertEqual((held.exception.index, type(held.exception.index)), (index, type(index)))

    def test_by_name(self):
        row = Row(self.book, "up", ("a", "b"))
        self.assertEqual(Row(pieces=("a", "b"), name="up", book=self.book), row)
        self.assertEqual(Row(self.book, pieces=("a", "b"), name="up"), row)
        self.assertEqual(Row(self.book, "up", pieces=("a", "b")).last(), row.last())

    def test_no_books(self):
        for given in NO_BOOKS:
            with self.subTest(given=given):
                self.check_raised(NotABook, given, given, "up", ("a",))
                self.check_raised(NotABook, given, given, None, ())

    def test_no_names_of_plans_of_the_book(self):
        for given in NO_STRINGS + BAD_NAMES + GOOD_NAMES + ("u", "upp", UP, self.book, ("up",)):
            with self.subTest(given=given):
                self.check_raised(UnknownPlan, given, self.book, given, ("a",))
                self.check_raised(UnknownPlan, given, self.book, given, ("A",))

    def test_no_tuples_and_no_elements(self):
        for given in NO_TUPLES + ((),):
            with self.subTest(given=given):
                self.check_pieces(None, given)

    def test_no_pieces(self):
        for given in BAD_PIECES:
            with self.subTest(given=given):
                self.check_pieces(0, (given,))
                self.check_pieces(0, (given, "a"))
                self.check_pieces(1, ("a", given))
                self.check_pieces(2, ("a", "bcde", given, given, "b"))
                self.check_pieces(11, TWELVE[:11] + (given,))
                self.check_pieces(11, TWELVE[:11] + (given, "a", "b"))
                self.check_pieces(12, TWELVE + (given,))

    def test_the_thirteenth(self):
        for many in (1, 2, 30):
            self.check_pieces(12, TWELVE + ("a",) * many)
        self.assertEqual(Row(self.book, "up", TWELVE).words, TWELVE)

    def test_all_pieces_that_are_right(self):
        for pieces in (("a",), ("z", "az", "zaz", "zzzz"), ("same", "same"), ("join", "left", "up"), ("abcd",) * 12):
            self.assertEqual(Row(self.book, "three", pieces).words, pieces)

    def test_calls_change_nothing_and_return_the_same_again(self):
        for book in some_books(seed=74, many=40) + [Book.read(text) for text in SOUND_TEXTS]:
            text, plans = str(book), book.plans
            for name in book.names:
                pieces = ("ab", "c", "d", "efg", "h")
                row = Row(book, name, pieces)
                words = model_words(book, name, pieces)
                if None not in words:
                    self.assertEqual(row.last(), row.last())
                    self.assertEqual(row.last(), Row(Book.read(text), name, pieces).last())
                    self.assertEqual(row, Row(book, name, pieces))
                self.assertEqual((row.words, row.done, row.pieces), (pieces, 0, ("ab", "c", "d", "efg", "h")))
            self.assertEqual(str(book), text)
            self.assertIs(book.plans, plans)

    def test_defined_where_they_are_listed(self):
        self.assertEqual(Row.__module__, "joinrounds.rows")
        for name in METHODS:
            self.assertIn(name, vars(Row))


if __name__ == "__main__":
    unittest.main()
