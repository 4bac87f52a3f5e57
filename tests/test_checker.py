"""accepts: which certificates show which claims."""

import itertools
import unittest
from unittest import mock

from joinrounds.books import Book
from joinrounds.checker import accepts
from tests.model import growing_books, model_certificates, model_hazards, model_level, some_books
from tests.samples import (BAD_NAMES, BOTH_TEXT, FOUR_TEXT, GOOD_NAMES, NO_INTEGERS, NO_STRINGS, SOUND_TEXTS, THREE_TEXT,
                           UP_TEXT, WRONG_TEXTS, late_text)

HOLDS = ("holds", BOTH_TEXT, "up", 3)
HOLDS_PAPER = (((0, 1), (1, 2), (2, 3)), ((0, 1), (0, 2), (2, 3)), ((0, 1), (0, 2), (2, 3)), ((0, 1), (0, 2), (0, 3)))
WRONG = ("wrong", BOTH_TEXT, "three", 3, 1)
WRONG_PAPER = (((0, 1), (1, 2), (2, 3)), ((0, 1), (0, 2), (1, 3)), ((0, 1), None, None))
HAZARD_TEXT = "plan h all base 1\ntake 1 of 2 left 1; clear 0 of 2\ncall h on 1 of 2\njoin 0 of 1 left 1\nclear 0 of 1\njoin 0 of 1 left 2"
HAZARD = ("hazard", HAZARD_TEXT, "h", 3, 1)
DIFFERS = ("differs", BOTH_TEXT, "three", ("a", "b", "c"))
# Pairs of right claims and certificates.
RIGHT = ((HOLDS, HOLDS_PAPER), (WRONG, WRONG_PAPER), (HAZARD, 2), (DIFFERS, 1))
THINGS = NO_STRINGS + NO_INTEGERS + (
    "", "holds", "up", BOTH_TEXT, 2, 100, 101, -100, 10 ** 12, (), ((),), ((0, 0),), (None,), ("holds",), ("holds", BOTH_TEXT),
    Book.read(BOTH_TEXT), ValueError("holds"), HOLDS, WRONG, HAZARD, DIFFERS, HOLDS_PAPER, WRONG_PAPER, list(HOLDS), list(HOLDS_PAPER),
    {HOLDS: HOLDS_PAPER}, mock.ANY, (mock.ANY,) * 4, (mock.ANY,) * 5, ("holds",) * 4, ("wrong",) * 5)
GROW_TEXT = ("plan grow all base 1\njoin 0 of 1 left 1\n" + "call low on 0 of 1\n" * 3 + "clear 0 of 1\n"
             "plan low all base 1" + "\njoin 0 of 2 right 1; join 1 of 2 left 1" * 5)


def is_tuple(value):
    return isinstance(value, tuple)


def others(value):
    """All values that have one thing otherwise, at any depth."""
    if is_tuple(value):
        yield list(value)
        yield value[:-1]
        yield value[1:]
        for more in (None, (0, 0), (0, 1), 0, value[-1:], value):
            yield value + (more,)
            yield (more,) + value
        yield value + value[-1:]
        for at, one in enumerate(value):
            for other in others(one):
                yield value[:at] + (other,) + value[at + 1:]
    elif isinstance(value, int):
        yield from (value + 1, value - 1, -value - 1, str(value), None, (value,), [value], value + 10 ** 30, True, False, complex(value))
    else:
        yield from ((0, 0), (), 0, False, "", "None", [], (None, None), (0, 1), (1, 0), (0, 0, 0), mock.ANY)
    if isinstance(value, (tuple, int)):
        yield from (None, (0, 0), (), 0, "", str(value), mock.ANY)


def is_other(value, right):
    """Whether two values differ, True and 1 being different, too."""
    return repr(value) != repr(right)


class CheckerCase(unittest.TestCase):

    def check(self, claim, certificate, right=True):
        self.assertIs(accepts(claim, certificate), right, (claim, certificate))

    def check_certificates(self, claim):
        """Only what the model tells is accepted, of that and of many things."""
        rights = model_certificates(claim)
        for right in rights:
            self.check(claim, right)
        for other in (None, (), 0, 1, 2, 3, 4, -1):
            self.check(claim, other, other in rights)
        return len(rights)


class RightTest(CheckerCase):

    def test_right_papers_of_each_word(self):
        for claim, certificate in RIGHT:
            self.check(claim, certificate)
            self.assertIs(accepts(certificate=certificate, claim=claim), True)
            self.assertEqual(model_certificates(claim), [certificate])

    def test_papers_with_one_thing_otherwise(self):
        for claim, certificate in RIGHT:
            seen = 0
            for other in others(certificate):
                if is_other(other, certificate):
                    self.check(claim, other, False)
                    seen += 1
            self.assertGreater(seen, 10)

    def test_papers_of_the_other_claims(self):
        for (claim, certificate), (other, paper) in itertools.permutations(RIGHT, 2):
            self.check(claim, paper, False)

    def test_lists_at_every_depth(self):
        self.check(HOLDS, list(HOLDS_PAPER), False)
        self.check(HOLDS, tuple(list(words) for words in HOLDS_PAPER), False)
        self.check(HOLDS, tuple(tuple(list(run) for run in words) for words in HOLDS_PAPER), False)
        self.check(list(HOLDS), HOLDS_PAPER, False)
        self.check((*DIFFERS[:3], ["a", "b", "c"]), 1, False)
        self.check(("differs", BOTH_TEXT, "three", "abc"), 1, False)

    def test_true_and_false_as_numbers(self):
        one = ("holds", UP_TEXT, "up", 1)
        self.check(one, (((0, 1),),) * 4)
        for paper in ((((False, True),),) * 4, (((0, True),),) * 4, (((False, 1),),) * 4, (((0, 1),),) * 3 + (((0, True),),)):
            self.check(one, paper, False)
        self.check(("holds", UP_TEXT, "up", True), (((0, 1),),) * 4, False)
        self.check((*WRONG[:4], True), WRONG_PAPER, False)
        self.check((*HAZARD[:4], True), 2, False)
        self.check(DIFFERS, True, False)
        first = ("differs", "plan a all base 1\nclear 0 of 1", "a", ("a", "b"))
        self.check(first, 0)
        self.check(first, False, False)
        self.check(("hazard", "plan a all base 1\njoin 0 of 1 left 1", "a", 3, 1), 0)
        self.check(("hazard", "plan a all base 1\njoin 0 of 1 left 1", "a", 3, 1), False, False)

    def test_claims_with_one_thing_otherwise(self):
        also_right = [repr(claim) for claim in ((*WRONG[:4], 2), (*HAZARD[:3], 100, 1))]
        for claim, certificate in RIGHT:
            for at, part in enumerate(claim):
                for given in THINGS + BAD_NAMES + GOOD_NAMES:
                    other = claim[:at] + (given,) + claim[at + 1:]
                    if is_other(other, claim):
                        with self.subTest(claim=other):
                            self.check(other, certificate, repr(other) in also_right)

    def test_more_and_fewer_elements(self):
        for claim, certificate in RIGHT:
            for many in range(len(claim)):
                self.check(claim[:many], certificate, False)
                self.check(claim[many + 1:], certificate, False)
            for more in (None, 0, 1, 2, "up", (), certificate):
                self.check(claim + (more,), certificate, False)

    def test_words_of_other_claims_and_of_none(self):
        for claim, certificate in RIGHT:
            for word in ("holds", "wrong", "hazard", "differs", "sound", "order free", "joins", "rounds", "Holds", "holds ",
                         " holds", "hold", "", None, 0, True, b"holds", ("holds",), ["holds"], mock.ANY):
                if word != claim[0] or word == mock.ANY and not isinstance(word, str):
                    self.check((word, *claim[1:]), certificate, False)

    def test_texts_of_books(self):
        for claim, certificate in RIGHT:
            text = claim[1]
            for other in (text + "\n", "\n" + text, text + " ", " " + text, text.replace("\n", " / "), text.replace(" of ", "  of "),
                          text.upper(), text + "\n" + text, text.encode(), Book.read(text), [text], (text,), "", text[:-1],
                          text.replace("base", "Base"), Book.read(text).plans):
                self.check((claim[0], other, *claim[2:]), certificate, False)

    def test_names(self):
        for claim, certificate in RIGHT:
            for name in NO_STRINGS + BAD_NAMES + GOOD_NAMES + ("up ", "UP", "u", "threee"):
                if name != claim[2] or not isinstance(name, str):
                    self.check((*claim[:2], name, *claim[3:]), certificate, False)


class LevelClaimsTest(CheckerCase):

    def test_holds_at_lengths_up_to_the_base(self):
        # Whatever the level has then, the plan holds; the certificate is the level all the same.
        text = "plan a all base 4\njoin 0 of 1 left 2"
        for size in (1, 2, 3, 4):
            paper = model_level(Book.read(text), "a", size)
            self.check(("holds", text, "a", size), paper)
            self.check(("holds", text, "a", size), paper[:1] + ((None,) * size,), False)
            for place in range(size):
                self.check(("wrong", text, "a", size, place), paper, False)
        paper = model_level(Book.read(text), "a", 5)
        self.check(("holds", text, "a", 5), paper, False)
        self.check(("wrong", text, "a", 5, 4), paper)

    def test_wrong_claims_with_right_levels(self):
        self.check(("holds", *WRONG[1:4]), WRONG_PAPER, False)
        self.check(("wrong", *HOLDS[1:], 2), HOLDS_PAPER, False)
        self.check((*WRONG[:4], 0), WRONG_PAPER, False)
        # Not only the least wrong place.
        self.check((*WRONG[:4], 2), WRONG_PAPER)

    def test_places_at_and_beyond_the_bounds(self):
        book = Book.read("plan a before base 1\nclear 0 of 1")
        paper = model_level(book, "a", 4)
        for place in (-10 ** 30, -5, -4, -3, -2, -1, 0, 1, 2, 3, 4, 5, 100, 10 ** 30):
            self.check(("wrong", str(book), "a", 4, place), paper, place in (1, 2, 3))
        for place in NO_INTEGERS:
            self.check(("wrong", str(book), "a", 4, place), paper, False)

    def test_lengths_at_and_beyond_the_bounds(self):
        for size in (1, 2, 99, 100, 101, 102, 200):
            paper = model_level(Book.read(UP_TEXT), "up", size)
            self.check(("holds", UP_TEXT, "up", size), paper, size <= 100)
            paper = model_level(Book.read(THREE_TEXT), "three", size)
            self.check(("wrong", THREE_TEXT, "three", size, size - 1), paper, 3 <= size <= 100)
        for size in NO_INTEGERS + (0, -1, -3, 10 ** 12, 10 ** 39):
            self.check(("holds", UP_TEXT, "up", size), ((),) * 4, False)
            self.check(("holds", UP_TEXT, "up", size), HOLDS_PAPER, False)
            self.check(("wrong", THREE_TEXT, "three", size, 0), ((),) * 3, False)
            self.check(("wrong", THREE_TEXT, "three", size, 1), WRONG_PAPER, False)

    def test_levels_of_other_lengths_and_plans(self):
        for size, other in itertools.permutations((1, 2, 3, 4), 2):
            self.check(("holds", UP_TEXT, "up", size), model_level(Book.read(UP_TEXT), "up", other), False)
        self.check(HOLDS, model_level(Book.read(BOTH_TEXT), "three", 3), False)
        self.check(WRONG, model_level(Book.read(BOTH_TEXT), "up", 3), False)

    def test_like_the_model(self):
        texts = list(SOUND_TEXTS) + [text for text, told_of in WRONG_TEXTS] + [str(book) for book in some_books(seed=91, many=30)]
        seen = {}
        for text in texts:
            book = Book.read(text)
            for name, size in itertools.product(book.names, (1, 2, 3, 5, 9)):
                paper = model_level(book, name, size)
                claim = ("holds", text, name, size)
                rights = model_certificates(claim)
                self.check(claim, paper, rights == [paper])
                seen["holds", len(rights)] = seen.get(("holds", len(rights)), 0) + 1
                for place in range(size):
                    claim = ("wrong", text, name, size, place)
                    rights = model_certificates(claim)
                    self.check(claim, paper, rights == [paper])
                    seen["wrong", len(rights)] = seen.get(("wrong", len(rights)), 0) + 1
        self.assertTrue(all(seen[word, many] > 100 for word in ("holds", "wrong") for many in (0, 1)), seen)

    def test_other_papers_for_many_claims(self):
        for text, told_of in WRONG_TEXTS[:2]:
            claim = ("wrong", text, *told_of)
            right, = model_certificates(claim)
            for other in others(right):
                self.check(claim, other, not is_other(other, right))


class HazardTest(CheckerCase):

    def test_indexes(self):
        for index in (-10 ** 30, -5, -4, -3, -2, -1, 0, 1, 2, 3, 4, 5, 10 ** 30):
            with self.subTest(index=index):
                self.check(HAZARD, index, index == 2)
                self.check(("hazard", HAZARD_TEXT, "h", 5, 2), index, index in (0, 2, 4))
        for index in NO_INTEGERS + (True, False, "2", (2,), [2], 2j, None, mock.ANY):
            self.check(HAZARD, index, False)

    def test_rounds_with_calls(self):
        text = "plan h all base 1\ncall h on 0 of 2; call h on 1 of 2\ncall low on 0 of 1\nplan low all base 1\njoin 0 of 1 left 1"
        for size, index in itertools.product(range(1, 12), (0, 1)):
            for place in range(size):
                self.check(("hazard", text, "h", size, place), index, False)

    def test_places_and_lengths_at_and_beyond_the_bounds(self):
        text = "plan h all base 1\njoin 0 of 1 left 1"
        for size in (1, 2, 3, 4, 99, 100, 101, 102):
            for place in (-2, -1, 0, 1, 2, 3, size - 2, size - 1, size, size + 1):
                right = size <= 100 and 1 <= place < size - 1
                self.check(("hazard", text, "h", size, place), 0, right)
        for given in NO_INTEGERS + (0, -1, -3, 10 ** 12, 10 ** 39):
            self.check(("hazard", text, "h", given, 1), 0, False)
            self.check(("hazard", text, "h", 3, given), 0, False)

    def test_takes_and_clears(self):
        # A take does something at places for which there is nothing to read, too.
        self.check(("hazard", "plan h all base 1\ntake 0 of 1 left 1", "h", 2, 0), 0)
        self.check(("hazard", "plan h all base 1\njoin 0 of 1 left 1", "h", 2, 0), 0, False)
        self.check(("hazard", HAZARD_TEXT, "h", 2, 0), 0)
        self.check(("hazard", HAZARD_TEXT, "h", 2, 1), 0, False)
        self.check(("hazard", HAZARD_TEXT, "h", 100, 50), 3, False)

    def test_like_the_model(self):
        seen = [0, 0]
        for book in some_books(seed=92, many=60, calls=3):
            for name, size in itertools.product(book.names[:2], (1, 3, 6, 9)):
                for index, text in enumerate(book.plan(name)[3]):
                    places = model_hazards(text, size)
                    for place in range(size):
                        self.check(("hazard", str(book), name, size, place), index, place in places)
                        seen[place in places] += 1
        self.assertGreater(min(seen), 200)


class DiffersTest(CheckerCase):

    def test_the_least_wrong_place_alone(self):
        for place in (-2, -1, 0, 1, 2, 3, 10 ** 30, None, "1", (1,), [1], True, False, 1j, mock.ANY):
            self.check(DIFFERS, place, place == 1 and type(place) is int)

    def test_rows_that_end_right(self):
        for text in SOUND_TEXTS:
            for size in (1, 2, 5, 12):
                claim = ("differs", text, Book.read(text).names[0], tuple("abcdefghijkl"[:size]))
                for place in (*range(12), None, True, False, -1, ()):
                    self.check(claim, place, False)

    def test_pieces(self):
        text = "plan a all base 1\nclear 0 of 1"
        for pieces in (("a", "b"), ("abcd", "z"), ("a",) * 12, ("zzzz",) * 12):
            self.check(("differs", text, "a", pieces), 0)
        # One place is done plainly.
        for pieces in ((), ("a",), ("a",) * 13, ("a", ""), ("", "a"), ("abcde", "a"), ("A", "b"), ("a", "1"), ("a", None), ("a", 1),
                       (1, 2), ("a", ("b",)), ("a b", "c"), ["a", "b"], "ab", None, 2, {"a": 1, "b": 2}, {"a", "b"}, mock.ANY,
                       (mock.ANY,) * 2, ("a\n", "b"), (b"a", b"b")):
            for place in (0, 1, 12, 13, None):
                self.check(("differs", text, "a", pieces), place, False)

    def test_other_words_at_the_end_by_the_pieces(self):
        # Only on equal pieces this is right.
        text = "plan swap last 1 base 1\ntake 0 of 2 right 1; take 1 of 2 left 1"
        self.check(("differs", text, "swap", ("a", "b")), 0)
        self.check(("differs", text, "swap", ("a", "a")), 0, False)
        self.check(("differs", text, "swap", ("a", "a", "b", "c")), 2)
        self.check(("differs", text, "swap", ("a", "a", "b", "c")), 0, False)

    def test_rows_whose_words_get_too_long(self):
        # Whatever the last round does: what is due is not what would be there.
        claim = ("differs", GROW_TEXT, "grow", ("a", "b"))
        self.assertEqual(model_certificates(claim), [])
        for place in (0, 1, None, 2):
            self.check(claim, place, False)
        short = GROW_TEXT.replace("\ncall low on 0 of 1" * 3, "\ncall low on 0 of 1")
        self.check(("differs", short, "grow", ("a", "b")), 0)

    def test_too_many_called_rows(self):
        text = "plan a last 1 base 1" + "\ncall b on 0 of 1" * 4 + "\nclear 0 of 1\nplan b last 1 base 1" + "\ncall c on 0 of 1" * 5
        text += "\nplan c last 1 base 1" + "\ncall d on 0 of 1" * 5 + "\nplan d last 1 base 1" + "\ncall d on 0 of 2; call d on 1 of 2" * 5
        for size, right in ((2, True), (12, False)):
            claim = ("differs", text, "a", tuple("abcdefghijkl"[:size]))
            self.assertEqual(model_certificates(claim), [0] if right else [])
            self.check(claim, 0, right)

    def test_like_the_model(self):
        seen = [0, 0]
        texts = [text for text, told_of in WRONG_TEXTS] + [late_text(0, goal="before"), FOUR_TEXT]
        for text in texts + [str(book) for book in (*some_books(seed=93, many=60), *growing_books(seed=94, many=20))]:
            for name, size in itertools.product(Book.read(text).names[:2], (1, 2, 5, 12)):
                seen[self.check_certificates(("differs", text, name, tuple("abcdefghijkl"[:size])))] += 1
        self.assertGreater(min(seen), 50)


class AnythingTest(CheckerCase):

    def test_things_of_many_kinds(self):
        for claim in THINGS:
            for certificate in THINGS:
                self.check(claim, certificate, any(not is_other((claim, certificate), right) for right in RIGHT))

    def test_right_claims_with_things_of_many_kinds(self):
        for claim, right in RIGHT:
            for certificate in THINGS:
                self.check(claim, certificate, not is_other(certificate, right))

    def test_nested_values(self):
        deep = ()
        for at in range(10):
            deep = (deep, at)
            self.check(deep, deep, False)
            for claim, certificate in RIGHT:
                self.check(claim, deep, False)
                self.check(deep, certificate, False)
                for place in range(len(claim)):
                    self.check(claim[:place] + (deep,) + claim[place + 1:], certificate, False)

    def test_nothing_is_changed_and_the_same_is_returned_again(self):
        for claim, certificate in RIGHT:
            before = repr((claim, certificate))
            for again in range(2):
                self.check(claim, certificate)
            self.assertEqual(repr((claim, certificate)), before)
        claim, certificate = list(HOLDS), [list(words) for words in HOLDS_PAPER]
        before = repr((claim, certificate))
        self.check(claim, certificate, False)
        self.check(HOLDS, certificate, False)
        self.assertEqual(repr((claim, certificate)), before)

    def test_defined_where_it_is_listed(self):
        self.assertEqual(accepts.__module__, "joinrounds.checker")


if __name__ == "__main__":
    unittest.main()
