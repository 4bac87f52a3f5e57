"""What the document guarantees over the whole program, for books of many kinds."""

import functools
import itertools
import random
import unittest

from joinrounds.books import Book
from joinrounds.certificates import certify_differs, certify_hazard, certify_holds, certify_wrong
from joinrounds.checker import accepts
from joinrounds.counts import joins, rounds
from joinrounds.desks import Desk
from joinrounds.errors import Broken, TooLong
from joinrounds.hazards import hazards
from joinrounds.levels import holds
from joinrounds.mending import idle, mends
from joinrounds.rows import Row
from joinrounds.verdicts import is_sound, uses, wrong_at
from tests.model import model_certificates, model_led, model_wrong, some_books, told
from tests.samples import SOUND_TEXTS, WRONG_TEXTS

LETTERS = tuple("abcdefghijkl")
SIZES = (*range(1, 14), 16, 17, 25, 31, 32, 33, 48)


def mended_books(books):
    """The books with the changes that mend their first plans."""
    for book in books:
        for index, text in mends(book, book.names[0]):
            yield book.changed(book.names[0], index, text)


def all_books():
    found = [Book.read(text) for text in SOUND_TEXTS + tuple(text for text, told_of in WRONG_TEXTS)]
    found += some_books(seed=121, many=150, calls=2) + some_books(seed=122, many=150, calls=8)
    return found + list(mended_books(found))


# Deeds that may be regrouped, none of them exchanged but for the last two: the nought, how to join, and how to make a piece.
def of_texts(chance):
    return "", lambda word, other: word + other, lambda: "".join(chance.choice("ab") for at in range(chance.randrange(4)))


def of_maps(chance):
    return (0, 1, 2), lambda word, other: tuple(other[one] for one in word), lambda: tuple(chance.randrange(3) for at in range(3))


def of_lasts(chance):
    # The last one that is there counts.
    return None, lambda word, other: word if other is None else other, lambda: chance.choice((1, 2, 3))


def of_grids(chance):
    def join(word, other):
        (a, b), (c, d) = word
        (e, f), (g, h) = other
        return ((a * e + b * g) % 7, (a * f + b * h) % 7), ((c * e + d * g) % 7, (c * f + d * h) % 7)
    return ((1, 0), (0, 1)), join, lambda: tuple(tuple(chance.randrange(7) for at in range(2)) for row in range(2))


def of_sums(chance):
    return 0, lambda word, other: word + other, lambda: chance.randrange(-5, 6)


def of_greatest(chance):
    return -1, max, lambda: chance.randrange(5)


DEEDS = (of_texts, of_maps, of_lasts, of_grids, of_sums, of_greatest)


class SoundTest(unittest.TestCase):

    def test_sound_plans_do_what_their_goals_say_for_each_deed(self):
        chance = random.Random(123)
        seen = 0
        for book in all_books():
            for name in book.names:
                if not is_sound(book, name):
                    continue
                seen += 1
                for deed, size in zip(itertools.cycle(DEEDS), SIZES):
                    nought, join, make = deed(chance)
                    pieces = [make() for place in range(size)]
                    goal = book.plan(name)[1]

                    def joined(words):
                        return functools.reduce(join, words, nought)

                    with self.subTest(book=str(book), name=name, size=size):
                        self.assertEqual(model_led(book, name, pieces, joined), told(goal, pieces, joined))
        self.assertGreater(seen, 40)

    def test_sound_plans_do_what_is_due_on_rows(self):
        chance = random.Random(124)
        for book in all_books():
            for name in book.names:
                if is_sound(book, name):
                    pieces = tuple("".join(chance.choice("abz") for at in range(chance.randrange(1, 5))) for place in range(chance.randrange(1, 13)))
                    last = Row(book, name, pieces).last()
                    self.assertEqual(last.words, last.due)
                    self.assertEqual(last.words, tuple(told(book.plan(name)[1], pieces, "".join)))


class WrongTest(unittest.TestCase):

    def test_what_is_told_is_the_least_length(self):
        seen = 0
        for book in all_books():
            for name in book.names:
                told_of = wrong_at(book, name)
                self.assertEqual(told_of is None, is_sound(book, name))
                if told_of is None:
                    continue
                seen += 1
                wrong, size, place = told_of
                used = uses(book, name)
                with self.subTest(book=str(book), name=name):
                    for one, less in itertools.product(used, range(1, size)):
                        self.assertIsNone(model_wrong(book, one, less))
                    found = [(one, model_wrong(book, one, size)) for one in used]
                    self.assertEqual(next(pair for pair in found if pair[1] is not None), (wrong, place))
                    self.assertFalse(holds(book, wrong, size))
        self.assertGreater(seen, 300)


class DeskTest(unittest.TestCase):

    def test_all_claims_hold_after_each_change(self):
        books = all_books()
        chance = random.Random(125)
        kept, refused = 0, 0
        for turn in range(40):
            desk = Desk(chance.choice(books))
            for name in desk.book.names:
                claims = [("joins", name, 9, joins(desk.book, name, 9)), ("rounds", name, 50, rounds(desk.book, name, 50))]
                claims += [("sound", name)] * is_sound(desk.book, name) + [("order free", name)] * (hazards(desk.book, name) == ())
                for claim in claims:
                    desk.claim(claim)
            for step in range(20):
                other = chance.choice(books)
                if step % 2:
                    # The same plans, but that the first one has another base.
                    name, goal, base, texts = desk.book.plans[0]
                    other = Book(((name, goal, base % 4 + 1, texts), *desk.book.plans[1:]))
                try:
                    desk.change(other)
                    kept += 1
                except Broken:
                    refused += 1
                for word, name, *numbers in desk.claims:
                    if word == "sound":
                        self.assertTrue(all(model_wrong(desk.book, name, size) is None for size in range(1, 18)))
                    elif word == "order free":
                        self.assertEqual(hazards(desk.book, name), ())
                    else:
                        self.assertLessEqual((joins if word == "joins" else rounds)(desk.book, name, numbers[0]), numbers[1])
        self.assertGreater(min(kept, refused), 50)


class CheckerTest(unittest.TestCase):

    def test_certificates_of_this_package_are_accepted_and_are_true(self):
        seen = {}
        for book in all_books():
            for name in book.names:
                pairs = [certify_holds(book, name, 7), certify_holds(book, name, 30), certify_wrong(book, name), certify_hazard(book, name)]
                for size in (2, 5, 12):
                    try:
                        pairs.append(certify_differs(book, name, size))
                    except TooLong:
                        pass
                for pair in pairs:
                    if pair is not None:
                        claim, certificate = pair
                        self.assertIs(accepts(claim, certificate), True)
                        self.assertIn(certificate, model_certificates(claim))
                        seen[claim[0]] = seen.get(claim[0], 0) + 1
        self.assertTrue(len(seen) == 4 and min(seen.values()) > 50, seen)


class MendingTest(unittest.TestCase):

    def test_a_clause_in_vain_is_in_vain(self):
        for book in all_books():
            name = book.names[0]
            for index, at in idle(book, name):
                texts = list(book.plan(name)[3])
                parts = texts[index].split("; ")
                texts[index:index + 1] = ["; ".join(parts[:at] + parts[at + 1:])] if len(parts) > 1 else []
                other = Book(((*book.plans[0][:3], tuple(texts)), *book.plans[1:]))
                self.assertTrue(all(model_wrong(other, name, size) is None for size in range(1, 25)))


if __name__ == "__main__":
    unittest.main()
