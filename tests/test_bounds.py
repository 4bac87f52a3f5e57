"""That finitely many lengths decide: the argument in joinrounds.verdicts, step by step and well beyond its bound."""

import itertools
import random
import unittest

from joinrounds.books import Book
from joinrounds.levels import first_words, holds, next_words, told_rounds, wrong_place
from joinrounds.verdicts import PERIOD, behind_round, deciding_size, is_sound, wrong_at
from tests.model import GROUPS, model_wrong, some_books
from tests.samples import CLASSES, GOALS, SOUND_TEXTS, WRONG_TEXTS, plain_clauses

FARS = (-4, -3, -2, -1, 1, 2, 3, 4)
# Rounds that make the bound great: reading far, before and between calls that join from the left end.
FAR_ROUNDS = (
    "join 0 of 1 right 4; call last 4 on 0 of 3; call all on 0 of 1; call before on 1 of 2; call all on 2 of 3",
    "take 0 of 1 right 4; take 0 of 1 right 4; call all on 0 of 1; call all on 0 of 2; call before on 0 of 1",
    "call last 4 on 2 of 3; call last 4 on 1 of 3; call all on 0 of 1; call all on 0 of 1; call all on 1 of 3",
    "clear 1 of 2; take 1 of 3 right 4; call all on 0 of 3; join 0 of 2 left 4; call before on 0 of 2",
)


def moved(word, top):
    """A word, with the integers that are not low raised by one period."""
    if word is None or word == (0, 0):
        return word
    return tuple(number if number <= top else number + PERIOD for number in word)


def some_clauses(chance):
    """A round as told_rounds returns it."""
    calls = chance.randrange(2)
    clauses = []
    for kind in chance.choice(GROUPS):
        remainder, divisor = int(kind[0]), int(kind[-1])
        deed = "call" if calls else chance.choice(("join", "join", "take", "take", "clear"))
        more = chance.choice(GOALS + ("all", "before")) if calls else 0 if deed == "clear" else chance.choice(FARS)
        clauses.append((deed, remainder, divisor, more))
    return clauses


def far_rounds(text):
    """The rounds of one clause each that such a text tells, with goals instead of names."""
    rounds = []
    for part in text.split("; "):
        words = part.split(" on ")[0].split(" ")
        if words[0] == "call":
            remainder, divisor = part.split(" on ")[1].split(" of ")
            rounds.append([("call", int(remainder), int(divisor), " ".join(words[1:]))])
        else:
            far = int(words[5]) if words[4:5] == ["right"] else -int(words[5]) if words[4:5] else 0
            rounds.append([(words[0], int(words[1]), int(words[3]), far)])
    return rounds


def near_books():
    """Sound books with one clause in the place of a round, and these books themselves."""
    for text in SOUND_TEXTS:
        book = Book.read(text)
        name = book.names[0]
        yield book
        clauses = [clause for kind in CLASSES for clause in plain_clauses(kind)]
        clauses += [f"call {one} on {kind}" for one in book.names for kind in CLASSES if kind != "0 of 1"]
        for index, clause in itertools.product(range(len(book.plan(name)[3])), clauses):
            yield book.changed(name, index, clause)


class ArgumentTest(unittest.TestCase):

    def check_step(self, bounds, words, longer):
        """The three points of the argument, for rows of some length and of one that is greater by a period."""
        begin, back, ahead, top = bounds
        size = len(words)
        self.assertGreater(begin - back, top)
        self.assertGreaterEqual(top, 0)
        for place in range(begin):
            self.assertEqual(words[place], longer[place])
        for place in range(begin, size):
            self.assertEqual(moved(words[place], top), longer[place + PERIOD])
        for place, word in enumerate(words):
            if word is not None:
                self.assertLessEqual(word[1], place + 1 + ahead)
            if place >= begin and word not in (None, (0, 0)):
                self.assertEqual([number for number in word if top < number < place - back], [])

    def check_rounds(self, rounds, mores):
        steps = [(1, 0, 0, 0)]
        for clauses in rounds:
            steps.append(behind_round(steps[-1], clauses))
        # The argument is about lengths from the last begin + ahead on, for all steps.
        least = steps[-1][0] + steps[-1][2]
        for more in mores:
            words, longer = first_words(least + more), first_words(least + more + PERIOD)
            self.check_step(steps[0], words, longer)
            for bounds, clauses in zip(steps[1:], rounds):
                words, longer = next_words(words, clauses), next_words(longer, clauses)
                self.check_step(bounds, words, longer)

    def test_each_step_for_many_rounds(self):
        chance = random.Random(21)
        for at in range(600):
            rounds = [some_clauses(chance) for many in range(chance.randrange(1, 6))]
            with self.subTest(rounds=rounds):
                self.check_rounds(rounds, (0, 1, 2, 3, 4, 5))

    def test_each_step_for_rounds_that_reach_far(self):
        for text in FAR_ROUNDS:
            rounds = far_rounds(text)
            for order in itertools.permutations(rounds):
                with self.subTest(order=order):
                    self.check_rounds(order, (0, 5))

    def test_what_holds_up_to_the_bound_holds_far_beyond_it(self):
        chance = random.Random(22)
        for at in range(600):
            rounds = [some_clauses(chance) for many in range(chance.randrange(1, 6))]
            for goal, base in itertools.product(GOALS, (1, 4)):
                most = deciding_size(("a", goal, base, ()), rounds)
                first = next((size for size in range(base + 1, most + 41)
                              if wrong_place(goal, rounds, size) is not None), None)
                with self.subTest(rounds=rounds, goal=goal, base=base):
                    self.assertTrue(first is None or first <= most)

    def test_the_bound_stays_small_enough_to_be_asked_for(self):
        chance = random.Random(23)
        many = [[some_clauses(chance) for at in range(5)] for again in range(2000)]
        many += [far_rounds(text) for text in FAR_ROUNDS]
        for rounds in many:
            self.assertLess(deciding_size(("a", "last 4", 4, ()), rounds), 200)


class BeyondTest(unittest.TestCase):

    def check_beyond(self, book):
        """A sound book holds at all lengths up to 100, and behind its bound, as do the other plans that it uses."""
        for one in book.plans:
            name, goal, base, texts = one
            if not is_sound(book, name):
                continue
            rounds = told_rounds(book, one)
            most = deciding_size(one, rounds)
            self.assertTrue(all(holds(book, name, size) for size in range(1, 101)), name)
            for size in (*range(101, 125), *range(most + 100, most + 124)):
                self.assertIsNone(wrong_place(goal, rounds, size), (name, size))

    def test_sound_books(self):
        for text in SOUND_TEXTS:
            with self.subTest(text=text):
                self.check_beyond(Book.read(text))

    def test_sound_books_by_the_model(self):
        for text in SOUND_TEXTS:
            book = Book.read(text)
            for name, size in itertools.product(book.names, (101, 102, 103, 104, 105, 106, 150, 191)):
                with self.subTest(text=text, name=name, size=size):
                    self.assertIsNone(model_wrong(book, name, size))

    def test_books_near_sound_ones(self):
        sound = 0
        for book in near_books():
            name, goal, base, texts = book.plans[0]
            told_of = wrong_at(book, name)
            rounds = told_rounds(book, book.plans[0])
            sizes = range(base + 1, 81) if told_of is None else range(base + 1, told_of[1] + 1)
            wrong = [size for size in sizes if wrong_place(goal, rounds, size) is not None]
            with self.subTest(book=str(book)):
                self.assertEqual(wrong, [] if told_of is None else [told_of[1]])
            sound += told_of is None
        self.assertGreater(sound, 40)

    def test_books_that_chance_made(self):
        for book in some_books(seed=24, many=400):
            with self.subTest(book=str(book)):
                self.check_beyond(book)

    def test_the_latest_wrong_lengths_are_well_within_the_bound(self):
        for text, told_of in WRONG_TEXTS:
            book = Book.read(text)
            one = book.plan(told_of[0])
            with self.subTest(text=text):
                self.assertLessEqual(told_of[1], deciding_size(one, told_rounds(book, one)))


if __name__ == "__main__":
    unittest.main()
