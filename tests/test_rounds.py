"""Which rounds a plan may have: clauses, classes, calls."""

import itertools
import unittest

from joinrounds.books import Book
from joinrounds.errors import InvalidPlans, InvalidText
from tests.samples import BAD_CLAUSES, BAD_NAMES, CLASSES, GOOD_NAMES, groups_of_classes, plain_clauses, plan


class RoundsTest(unittest.TestCase):

    def setUp(self):
        self.book = Book((plan("top"), plan("up")))

    def check_good(self, text):
        self.assertEqual(Book((plan("top", rounds=(text,)), plan("up"))).plans[0][3], (text,))
        self.assertEqual(self.book.changed("top", 0, text).plan("top")[3], (text,))

    def check_bad(self, text):
        with self.assertRaises(InvalidPlans) as held:
            Book((plan("top", rounds=(text,)), plan("up")))
        self.assertEqual(held.exception.index, 0)
        # A wrong plan behind it tells a round that is wrong by itself from a call that cannot stand.
        with self.assertRaises(InvalidPlans) as held:
            Book((plan("top", rounds=("clear 0 of 1", text)), None))
        self.assertEqual(held.exception.index, 0)
        with self.assertRaises(InvalidText) as held:
            self.book.changed("top", 0, text)
        self.assertIs(held.exception.given, text)

    def test_each_clause_alone(self):
        for kind in CLASSES:
            for text in [*plain_clauses(kind), f"call up on {kind}"]:
                with self.subTest(text=text):
                    self.check_good(text)

    def test_wrong_clauses(self):
        for text in BAD_CLAUSES:
            with self.subTest(text=text):
                self.check_bad(text)

    def test_wrong_clauses_beside_right_ones(self):
        for text in BAD_CLAUSES:
            for parts in (("clear 0 of 3", text), (text, "clear 0 of 3"), ("call up on 0 of 3", text)):
                with self.subTest(parts=parts):
                    self.check_bad("; ".join(parts))

    def test_every_digit_of_a_clause(self):
        for rest, many, far in itertools.product(range(10), repeat=3):
            good = 1 <= many <= 3 and rest < many
            with self.subTest(rest=rest, many=many, far=far):
                for deed, side in itertools.product(("join", "take"), ("left", "right")):
                    text = f"{deed} {rest} of {many} {side} {far}"
                    (self.check_good if good and 1 <= far <= 4 else self.check_bad)(text)
                if far == 1:
                    (self.check_good if good else self.check_bad)(f"clear {rest} of {many}")
                    (self.check_good if good else self.check_bad)(f"call up on {rest} of {many}")

    def test_classes_of_two_and_three_clauses(self):
        for many in (2, 3):
            for kinds, apart in groups_of_classes(many):
                with self.subTest(kinds=kinds):
                    check = self.check_good if apart else self.check_bad
                    check("; ".join(f"clear {kind}" for kind in kinds))
                    check("; ".join(f"call up on {kind}" for kind in kinds))
                    check("; ".join(f"{deed} {kind} left 2" for deed, kind in zip(("join", "take", "join"), kinds)))

    def test_at_most_three_clauses(self):
        thirds = [f"clear {rest} of 3" for rest in range(3)]
        self.check_good("; ".join(thirds))
        self.check_bad("; ".join(thirds + ["clear 0 of 3"]))
        self.check_bad("; ".join(thirds + ["clear 0 of 1"]))
        self.check_bad("; ".join(thirds + ["clear 3 of 4"]))

    def test_all_clauses_are_calls_or_none(self):
        for plain in ("join 0 of 3 left 1", "take 0 of 3 right 4", "clear 0 of 3"):
            with self.subTest(plain=plain):
                self.check_bad(plain + "; call up on 1 of 3")
                self.check_bad("call up on 1 of 3; " + plain)
                self.check_bad("call up on 1 of 3; call up on 2 of 3; " + plain)
                self.check_bad("call up on 1 of 3; " + plain + "; clear 2 of 3")
        self.check_good("call up on 2 of 3; call top on 0 of 3; call up on 1 of 3")

    def test_what_stands_between_clauses(self):
        for between in (";", " ;", " ; ", ";  ", "  ", " ", ", ", "\n", ";\n", "; ; ", ";; ", "/"):
            with self.subTest(between=between):
                self.check_bad("clear 0 of 2" + between + "clear 1 of 2")
        for text in ("clear 0 of 2; ", "; clear 0 of 2", "; ", ";", "clear 0 of 2;"):
            with self.subTest(text=text):
                self.check_bad(text)

    def test_names_in_calls(self):
        for name in GOOD_NAMES:
            with self.subTest(name=name):
                book = Book((plan("top", rounds=(f"call {name} on 0 of 1",)), plan(name)))
                self.assertEqual(book.names, ("top", name))
                with self.assertRaises(InvalidPlans) as held:
                    Book((plan("top", rounds=(f"call {name} on 0 of 1",)), plan("other"), None))
                self.assertEqual(held.exception.index, 2)
        for name in BAD_NAMES:
            with self.subTest(name=name):
                self.check_bad(f"call {name} on 1 of 2")

    def test_rounds_that_are_no_strings(self):
        for value in (None, 0, True, (), [], {}, b"clear 0 of 1", ("clear 0 of 1",), ["clear 0 of 1"], object()):
            with self.subTest(value=value):
                self.check_bad(value)


if __name__ == "__main__":
    unittest.main()
