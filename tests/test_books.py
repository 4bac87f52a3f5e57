"""Class Book: its plans, what it reads, what it finds, equality and texts."""

import itertools
import re
import unittest

from joinrounds.books import Book
from joinrounds.errors import InvalidPlace, InvalidPlans, InvalidText, UnknownPlan
from tests.samples import (BAD_NAMES, BOTH_TEXT, GOALS, GOOD_NAMES, NO_INTEGERS, NO_STRINGS, THREE,
                           THREE_TEXT, UP, UP_TEXT, plan)

FOUR = (UP, THREE, plan("b", "before", 3), plan("c1", "last 1", 4, ("clear 1 of 3", "call up on 0 of 1")))
FOUR_RIGHT = FOUR[:3] + (plan("c1", "last 1", 4, ("clear 1 of 3", "call up on 0 of 2")),)


HEAD = r"plan [a-z][a-z0-9]{0,7} (all|before|last [1-4]) base [1-4]"
KIND = r"(0 of 1|[01] of 2|[0-2] of 3)"
LINE = rf"((join|take) {KIND} (left|right) [1-4]|clear {KIND}|call [a-z][a-z0-9]{{0,7}} on {KIND})"


def is_book_text(text):
    """Whether this is the text of a book, for texts of up to two plans with one clause a round."""
    if not re.fullmatch(rf"{HEAD}(\n{LINE}){{1,5}}(\n{HEAD}(\n{LINE}){{1,5}})?", text):
        return False
    names = re.findall(r"(?m)^plan (\S+)", text)
    at = -1
    for line in text.split("\n"):
        at += line.startswith("plan ")
        if line.startswith("call "):
            called = line.split(" ")[1]
            if called not in names or line.endswith(" of 1") and called not in names[at + 1:]:
                return False
    return len(names) == len(set(names))


class BookTest(unittest.TestCase):

    def check_plans(self, plans):
        book = Book(plans)
        self.assertEqual(book.plans, plans)
        self.assertIs(type(book.plans), tuple)
        self.assertEqual(book.names, tuple(one[0] for one in plans))
        self.assertIs(type(book.names), tuple)
        self.assertEqual(Book.read(str(book)), book)

    def check_index(self, plans, index):
        with self.assertRaises(InvalidPlans) as held:
            Book(plans)
        self.assertEqual(held.exception.index, index)
        self.assertIs(type(held.exception.index), type(index))

    def test_one_to_four_plans(self):
        for many in range(1, 5):
            with self.subTest(many=many):
                self.check_plans(FOUR_RIGHT[:many])

    def test_by_name(self):
        self.assertEqual(Book(plans=(UP,)), Book((UP,)))
        self.assertEqual(Book.read(text=UP_TEXT), Book((UP,)))
        self.assertEqual(Book((UP,)).plan(name="up"), UP)
        self.assertEqual(Book((UP,)).changed(name="up", index=0, text="clear 0 of 1").plans[0][3][0],
                         "clear 0 of 1")

    def test_each_goal_each_base_each_number_of_rounds(self):
        for goal, base, many in itertools.product(GOALS, range(1, 5), range(1, 6)):
            with self.subTest(goal=goal, base=base, many=many):
                self.check_plans((plan("up", goal, base, ("clear 0 of 2",) * many),))

    def test_each_good_name(self):
        for name in GOOD_NAMES:
            with self.subTest(name=name):
                rounds = (f"call {name} on 1 of 2", "join 0 of 1 left 1")
                for goal in GOALS:
                    self.check_plans((plan(name, goal, 1, rounds),))

    def test_names_that_are_words_of_clauses_side_by_side(self):
        rounds = ("call on on 1 of 2; call of on 0 of 2", "call call on 0 of 3; call plan on 1 of 3")
        self.check_plans((plan("plan", "all", 1, rounds), plan("on"), plan("of"), plan("call")))

    def test_no_tuple_or_no_plans(self):
        for plans in (None, True, False, 0, 1, "", "up", UP_TEXT, b"", [], [UP], {}, {"up": UP}, set(),
                      object(), Book((UP,)), (), iter(()), range(0), tuple, 1j):
            with self.subTest(plans=plans):
                self.check_index(plans, None)

    def test_what_is_no_plan_by_itself(self):
        wrong = [None, True, 0, 1, "up", UP_TEXT, (), [], {}, list(UP), UP[:3], UP + (1,), (UP,), set(),
                 object(), b"up", Book((UP,)), ("up", "all", ("clear 0 of 1",), 1)]
        wrong += [plan(name=name) for name in BAD_NAMES + NO_STRINGS]
        wrong += [plan(goal=goal) for goal in NO_STRINGS]
        wrong += [plan(base=base) for base in NO_INTEGERS + (0, 5, -1, 10 ** 39)]
        for given in wrong:
            with self.subTest(given=given):
                self.check_index((given,), 0)
                self.check_index((UP, given), 1)
                self.check_index((UP, THREE, plan("third"), given), 3)
                self.check_index((given, given), 0)

    def test_wrong_goals(self):
        for goal in ("", "All", "ALL", "all ", " all", "none", "last", "last ", "last 0", "last 5",
                     "last 01", "last +1", "last -1", "last  1", " last 1", "last 1 ", "last1", "last 10",
                     "last 1 2", "Last 1", "before 1", "all 1", "last all", "all\n", "last one", "al"):
            with self.subTest(goal=goal):
                self.check_index((plan(goal=goal),), 0)
                self.check_index((UP, plan("b", goal)), 1)

    def test_the_rounds_are_a_tuple_of_one_to_five(self):
        clear = "clear 0 of 1"
        for rounds in (None, (), [], [clear], clear, {clear: clear}, {clear}, (clear,) * 6, 1, (None,),
                       ((clear,),), ([clear],), (clear, None), (clear, 1), (clear, ""), (b"clear 0 of 1",)):
            with self.subTest(rounds=rounds):
                self.check_index((plan(rounds=rounds),), 0)
                self.check_index((THREE, plan(rounds=rounds)), 1)

    def test_equal_names(self):
        self.check_index((UP, UP), 1)
        self.check_index((UP, THREE, plan("up")), 2)
        self.check_index((UP, plan("b"), plan("b"), UP), 2)
        self.check_index((UP, plan("b"), THREE, plan("b")), 3)
        self.check_plans((plan("up"), plan("upp"), plan("u"), plan("up1")))

    def test_the_fifth_plan(self):
        self.check_index(FOUR_RIGHT + (plan("fifth"),), 4)
        self.check_index(FOUR_RIGHT + (plan("fifth"), plan("sixth")), 4)
        self.check_index(FOUR_RIGHT + (None,), 4)
        self.check_index(FOUR_RIGHT[:3] + (None, plan("fifth")), 3)
        self.check_index(FOUR_RIGHT[:3] + (UP, plan("fifth")), 3)

    def test_calls_are_looked_at_last(self):
        lost = plan("lost", rounds=("call nowhere on 1 of 2",))
        self.check_index((lost,), 0)
        self.check_index((UP, lost, THREE), 1)
        self.check_index((lost, None), 1)
        self.check_index((lost, lost), 1)
        self.check_index((lost, UP, THREE, plan("d"), plan("fifth")), 4)
        self.check_index((lost, plan("up", "all", True)), 1)
        self.check_index((UP, lost, plan("also", rounds=("call nowhere on 1 of 2",))), 1)
        self.check_index(FOUR, 3)
        self.check_index((lost, plan("b", rounds=("call toolongname on 1 of 2",))), 1)
        self.check_index((plan("b", rounds=("call toolongname on 1 of 2",)), None), 0)

    def test_calls_that_cannot_stand_in_a_later_round_or_clause(self):
        for text in ("call nowhere on 1 of 2", "call up on 0 of 2; call nowhere on 1 of 2",
                     "call nowhere on 0 of 3; call up on 1 of 3", "call up on 0 of 1"):
            with self.subTest(text=text):
                self.check_index((plan("b"), plan(rounds=("clear 0 of 1", text, "clear 0 of 1"))), 1)

    def test_calls_on_all_places_go_further_down(self):
        def book_of(at, name, kind):
            plans = [plan(one) for one in ("a", "b", "c", "d")]
            plans[at] = plan(plans[at][0], rounds=(f"call {name} on {kind}",))
            return tuple(plans)
        for at, called in itertools.product(range(4), repeat=2):
            with self.subTest(at=at, called=called):
                if called > at:
                    self.check_plans(book_of(at, "abcd"[called], "0 of 1"))
                else:
                    self.check_index(book_of(at, "abcd"[called], "0 of 1"), at)
                self.check_plans(book_of(at, "abcd"[called], "1 of 2"))
                self.check_plans(book_of(at, "abcd"[called], "2 of 3"))
                self.check_index(book_of(at, "e", "0 of 1"), at)

    def test_arguments_stay_as_they_were(self):
        held = [list(UP), ["x"]]
        self.check_index(held, None)
        self.assertEqual(held, [list(UP), ["x"]])
        rounds = ["clear 0 of 1"]
        self.check_index((plan(rounds=rounds),), 0)
        self.assertEqual(rounds, ["clear 0 of 1"])

    def test_properties_cannot_be_assigned(self):
        book = Book((UP,))
        for name in ("plans", "names"):
            with self.subTest(name=name), self.assertRaises(AttributeError):
                setattr(book, name, ())
        self.assertEqual((book.plans, book.names), ((UP,), ("up",)))


class ReadTest(unittest.TestCase):

    def check_wrong(self, text):
        with self.assertRaises(InvalidText) as held:
            Book.read(text)
        self.assertIs(held.exception.given, text)

    def test_the_text_of_the_document(self):
        book = Book.read(BOTH_TEXT)
        self.assertEqual(book.plans, (UP, THREE))
        self.assertEqual(book.names, ("up", "three"))
        self.assertEqual(repr(book), "Book of 2 plans")
        self.assertEqual(str(book), BOTH_TEXT)

    def test_reads_the_greatest_book(self):
        rounds = ("join 0 of 3 right 4; take 1 of 3 right 4; join 2 of 3 right 4",) * 5
        plans = tuple(plan(f"abcdefg{at}", "last 4", 4, rounds) for at in range(4))
        self.assertEqual(Book.read(str(Book(plans))).plans, plans)

    def test_texts_around_a_right_one(self):
        for text in ("\n" + UP_TEXT, UP_TEXT + "\n", "\n" + UP_TEXT + "\n", " " + UP_TEXT, UP_TEXT + " ",
                     UP_TEXT + "\n\n" + THREE_TEXT, UP_TEXT + "\n" + THREE_TEXT + "\n",
                     UP_TEXT + " / " + THREE_TEXT, UP_TEXT + THREE_TEXT, UP_TEXT + "\n" + UP_TEXT,
                     UP_TEXT + "\n" + THREE_TEXT + "\n" + UP_TEXT, UP_TEXT + "\n ",
                     UP_TEXT.replace("\n", "\n\n", 1), UP_TEXT.replace("\n", " ", 1),
                     UP_TEXT.replace("\n", "\n ", 1), UP_TEXT.replace("\n", " \n", 1),
                     UP_TEXT.replace("\n", "\r\n"), UP_TEXT.upper(), UP_TEXT.replace("up", "Up"),
                     "clear 0 of 1\n" + UP_TEXT, "x" + UP_TEXT, UP_TEXT[:-1], UP_TEXT[1:]):
            with self.subTest(text=text):
                self.check_wrong(text)

    def test_wrong_heads(self):
        for head in ("", "plan", "plan ", "plan up", "plan up all", "plan up all base", "plan up all base ",
                     "plan up base 1", "plan all base 1", "plan up all 1", "plan up all base 0",
                     "plan up all base 5", "plan up all base 01", "plan up all base +1", "plan up all base -1",
                     "plan up all base 1 ", " plan up all base 1", "plan  up all base 1",
                     "plan up  all base 1", "plan up all  base 1", "plan up all base  1", "Plan up all base 1",
                     "plan up All base 1", "plan up all Base 1", "plan Up all base 1", "plan 1up all base 1",
                     "plan abcdefghi all base 1", "plan up up all base 1", "plan up all all base 1",
                     "plan up last base 1", "plan up last 0 base 1", "plan up last 5 base 1",
                     "plan up last 03 base 1", "plan up last +3 base 1", "plan up last  3 base 1",
                     "plan up all base 1 base 1", "plan up base all 1", "plan base 1 up all", "up all base 1",
                     "plan up all base one", "planup all base 1", "plan  all base 1", "plan up  base 1",
                     "clear 0 of 1"):
            with self.subTest(head=head):
                self.check_wrong(head + "\nclear 0 of 1")
                self.check_wrong(UP_TEXT + "\n" + head.replace("up", "other") + "\nclear 0 of 1 ")
                if head != "clear 0 of 1":
                    self.check_wrong(UP_TEXT + "\n" + head.replace("up", "other") + "\nclear 0 of 1")

    def test_one_sign_less_more_or_other(self):
        texts = [BOTH_TEXT[:at] + signs + BOTH_TEXT[at + cut:] for at in range(len(BOTH_TEXT) + 1)
                 for cut in (0, 1) for signs in ("", *"\n ;0123459aeuzA-+")]
        read = 0
        for text in texts:
            with self.subTest(text=text):
                if is_book_text(text):
                    self.assertEqual(str(Book.read(text)), text)
                    read += 1
                else:
                    self.check_wrong(text)
        self.assertGreater(read, 100)

    def test_lines_out_of_order(self):
        lines = UP_TEXT.split("\n")
        for order in itertools.permutations(range(len(lines))):
            text = "\n".join(lines[at] for at in order)
            with self.subTest(text=text):
                if order[0] == 0:
                    self.assertEqual(str(Book.read(text)), text)
                else:
                    self.check_wrong(text)

    def test_numbers_of_plans_and_rounds(self):
        heads = [f"plan p{at} all base 1" for at in range(6)]
        for many in range(0, 7):
            text = "\n".join([heads[0]] + ["clear 0 of 1"] * many)
            with self.subTest(rounds=many):
                if 1 <= many <= 5:
                    self.assertEqual(Book.read(text).plans[0][3], ("clear 0 of 1",) * many)
                else:
                    self.check_wrong(text)
            text = "\n".join(head + "\nclear 0 of 1" for head in heads[:many])
            with self.subTest(plans=many):
                if 1 <= many <= 4:
                    self.assertEqual(len(Book.read(text).plans), many)
                elif many < 6:
                    self.check_wrong(text)
        self.check_wrong(heads[0] + "\n" + heads[1] + "\nclear 0 of 1")
        self.check_wrong(heads[0] + "\nclear 0 of 1\n" + heads[1])

    def test_rounds_and_calls_that_cannot_stand(self):
        for text in ("clear 0 of 1; clear 0 of 2", "call up on 0 of 1", "call nowhere on 1 of 2", "",
                     "call up on 0 of 2; clear 1 of 2", "clear 0 of 3;clear 1 of 3", "plan x"):
            with self.subTest(text=text):
                self.check_wrong("plan up all base 1\n" + text)
                self.check_wrong(THREE_TEXT + "\nplan up all base 1\n" + text)

    def test_what_is_no_string(self):
        for given in NO_STRINGS + (Book((UP,)), (UP,), UP, [UP_TEXT], (UP_TEXT,), UP_TEXT.encode()):
            with self.subTest(given=given):
                self.check_wrong(given)


class PlanTest(unittest.TestCase):

    def check_unknown(self, book, name):
        with self.assertRaises(UnknownPlan) as held:
            book.plan(name)
        self.assertIs(held.exception.given, name)

    def test_each_plan_is_found(self):
        book = Book(FOUR_RIGHT)
        for one in FOUR_RIGHT:
            self.assertEqual(book.plan(one[0]), one)

    def test_what_is_no_name_of_a_plan(self):
        book = Book((UP, THREE))
        for name in NO_STRINGS + BAD_NAMES + GOOD_NAMES + ("u", "p", "upp", "thre", "UP", "up three", UP, UP_TEXT,
                                                           list(UP), ("up", "three"), ["up"], book):
            with self.subTest(name=name):
                self.check_unknown(book, name)


class ChangedTest(unittest.TestCase):

    def setUp(self):
        self.book = Book((UP, THREE))

    def check_raised(self, error, given, *arguments):
        with self.assertRaises(error) as held:
            self.book.changed(*arguments)
        self.assertIs(held.exception.given, given)
        self.assertEqual(str(self.book), BOTH_TEXT)

    def test_each_round_of_each_plan(self):
        for name, many in (("up", 3), ("three", 2)):
            for index in range(many):
                with self.subTest(name=name, index=index):
                    changed = self.book.changed(name, index, "clear 2 of 3; take 0 of 3 right 2")
                    rounds = list(self.book.plan(name)[3])
                    rounds[index] = "clear 2 of 3; take 0 of 3 right 2"
                    self.assertEqual(changed.plan(name), self.book.plan(name)[:3] + (tuple(rounds),))
                    other = "three" if name == "up" else "up"
                    self.assertEqual(changed.plan(other), self.book.plan(other))
                    self.assertEqual(changed.names, ("up", "three"))
                    self.assertEqual(self.book.plans, (UP, THREE))
                    self.assertIs(type(changed), Book)

    def test_the_same_round_gives_an_equal_book(self):
        self.assertEqual(self.book.changed("up", 1, "call up on 1 of 2"), self.book)

    def test_unknown_plans(self):
        for name in NO_STRINGS + BAD_NAMES + GOOD_NAMES + (UP, UP_TEXT):
            with self.subTest(name=name):
                self.check_raised(UnknownPlan, name, name, 0, "clear 0 of 1")

    def test_invalid_places(self):
        for index in NO_INTEGERS + (-1, -2, 2, 3, 5, 10 ** 39, -10 ** 39, "0"):
            with self.subTest(index=index):
                self.check_raised(InvalidPlace, index, "three", index, "clear 0 of 1")
        self.check_raised(InvalidPlace, 3, "up", 3, "clear 0 of 1")
        self.check_raised(InvalidPlace, -3, "up", -3, "clear 0 of 1")

    def test_invalid_texts(self):
        for text in NO_STRINGS + ("", "join", "clear 0 of 1 ", "clear 0 of 1; clear 1 of 2", UP_TEXT,
                                  "call up on 0 of 2; clear 1 of 2", "clear 0 of 1\nclear 0 of 1"):
            with self.subTest(text=text):
                self.check_raised(InvalidText, text, "up", 0, text)
                self.check_raised(InvalidText, text, "three", 1, text)

    def test_calls_stand_or_not_because_of_their_book(self):
        self.book.changed("up", 0, "call three on 0 of 1")
        self.book.changed("three", 0, "call three on 0 of 2; call up on 1 of 2")
        for name, text in (("up", "call up on 0 of 1"), ("three", "call three on 0 of 1"),
                           ("three", "call up on 0 of 1"), ("up", "call four on 0 of 2"),
                           ("up", "call four on 0 of 1"), ("three", "call up on 0 of 2; call u on 1 of 2")):
            with self.subTest(name=name, text=text):
                self.check_raised(InvalidText, text, name, 0, text)
        alone = Book((UP,))
        self.assertRaises(InvalidText, alone.changed, "up", 0, "call three on 0 of 1")

    def test_errors_in_the_order_of_the_arguments(self):
        self.check_raised(UnknownPlan, "no", "no", -1, "no")
        self.check_raised(InvalidPlace, -1, "up", -1, "no")
        self.check_raised(InvalidPlace, True, "up", True, None)
        self.check_raised(InvalidText, "no", "up", 0, "no")
        self.check_raised(UnknownPlan, None, None, None, None)


class EqualityTest(unittest.TestCase):

    def test_equal_just_if_the_texts_are(self):
        texts = (UP_TEXT, THREE_TEXT, BOTH_TEXT, THREE_TEXT + "\n" + UP_TEXT,
                 UP_TEXT.replace("all base", "before base"), UP_TEXT.replace("base 1", "base 2"),
                 UP_TEXT.replace("up", "on"), UP_TEXT + "\nclear 0 of 1", UP_TEXT.replace("left 1", "left 2"))
        for one, other in itertools.product(texts, repeat=2):
            with self.subTest(one=one, other=other):
                self.assertIs(Book.read(one) == Book.read(other), one == other)
                self.assertIs(Book.read(one) != Book.read(other), one != other)

    def test_never_equal_to_a_value_of_another_class(self):
        book = Book((UP,))
        for other in NO_STRINGS + (UP_TEXT, (UP,), UP, [UP], "Book of 1 plans", InvalidPlans(0)):
            with self.subTest(other=other):
                self.assertIs(book == other, False)
                self.assertIs(book != other, True)
        self.assertTrue(book == book)
        self.assertFalse(book != book)
        self.assertIn(book, [1, "up", Book((UP,))])
        self.assertNotIn(book, [1, UP, UP_TEXT])

    def test_a_book_is_true(self):
        self.assertIs(bool(Book((UP,))), True)

    def test_text_and_repr_for_each_number_of_plans(self):
        for many in range(1, 5):
            book = Book(FOUR_RIGHT[:many])
            with self.subTest(many=many):
                self.assertEqual(repr(book), f"Book of {many} plans")
        self.assertEqual(str(Book((UP,))), UP_TEXT)
        self.assertEqual(str(Book((plan("b", "before", 3),))), "plan b before base 3\njoin 0 of 1 left 1")

    def test_equal_calls_return_equal_results(self):
        book, again = Book((UP, THREE)), Book((UP, THREE))
        self.assertEqual(book, again)
        self.assertEqual(book.plans, again.plans)
        self.assertEqual(book.changed("up", 0, "clear 0 of 1"), again.changed("up", 0, "clear 0 of 1"))
        self.assertEqual(str(book), str(book))

    def test_what_the_interface_lists_is_defined_where_it_is_listed(self):
        self.assertEqual(Book.__module__, "joinrounds.books")
        for name in ("__init__", "read", "plans", "names", "plan", "changed", "__eq__", "__str__", "__repr__"):
            with self.subTest(name=name):
                self.assertIn(name, vars(Book))


if __name__ == "__main__":
    unittest.main()
