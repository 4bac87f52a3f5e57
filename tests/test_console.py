"""Console: a desk by lines."""

import random
import unittest
from unittest import mock

from joinrounds.books import Book
from joinrounds.console import Console
from joinrounds.counts import joins, rounds
from joinrounds.desks import Desk
from joinrounds.errors import CannotBe, InvalidText, NotABook, NotRight, NotThere
from joinrounds.rows import Row
from joinrounds.verdicts import wrong_at
from tests.model import some_books
from tests.samples import BAD_NAMES, BOTH_TEXT, GOOD_NAMES, NO_STRINGS, SOUND_TEXTS, THREE, UP, UP_TEXT, WRONG_TEXTS, plan

NO_BOOKS = NO_STRINGS + ("", "up", UP, (UP,), [UP], BOTH_TEXT, Book, Book((UP,)).plans, ValueError("up"))
MOST = 10 ** 12
# A line of each form, with what it answers at first.
LINES = (
    ("book plan a all base 1 / clear 0 of 1", "ok"),
    ("round up 0: join 1 of 2 left 3", "ok"),
    ("undo", "NothingToUndo"),
    ("claim sound up", "ok"),
    ("claim order free up", "ok"),
    ("claim joins up 8 11", "ok"),
    ("claim rounds up 8 6", "ok"),
    ("lift 0", "InvalidPlace"),
    ("wrong up", "-"),
    ("joins up 8", "11"),
    ("rounds up 8", "6"),
    ("names", "up three"),
    ("lead up a b c", "a ab abc"),
    ("show", BOTH_TEXT),
)
WORDS = ("book", "round", "undo", "claim", "sound", "order", "free", "joins", "rounds", "lift", "wrong", "names", "lead", "show",
         "ok", "text", "name", "n")
BAD_NUMBERS = ("", "00", "01", "007", "+1", "-1", "-0", "+0", "1.", "1.0", "1e3", "1_000", "0x1", "one", "N", "1a", "a1", "1,", "1:", "#1",
               "NAME", "None")
NO_LINES = (
    "", " ", "  ", "Undo", "UNDO", "undo ", " undo", "undo 1", "undo up", "undoes", "und", "undo:", "names ", " names", "names up",
    "Names", "name", "show ", " show", "show up", "SHOW", "shows", "book", "Book plan a all base 1 / clear 0 of 1", " book ", "books x",
    "round", "round ", "round up", "round up ", "round up 0", "round up 0 ", "round up 0:", "round up 0 : clear 0 of 1",
    "round up:0 clear 0 of 1", "round up 0:clear 0 of 1", "round up  0: clear 0 of 1", "round  up 0: clear 0 of 1",
    "round up 0 clear 0 of 1", "round up : clear 0 of 1", "round 0: clear 0 of 1", "round up 00: clear 0 of 1", " round up 0: clear 0 of 1",
    "round up 0:: clear 0 of 1", "round up 0x clear 0 of 1", "round up 01 clear 0 of 1", "round up 0; clear 0 of 1", "rounds up 0: clear 0 of 1", "round up N: clear 0 of 1", "round NAME 0: clear 0 of 1", "round NAME N: TEXT",
    "claim", "claim ", "claim sound", "claim sound ", "claim  sound up", "claim sound  up", "claim sound up ", "claim sound up up",
    "claim sound up 8", "claim up", "claim up sound", "claim Sound up", "claim sound NAME", "claim order", "claim order free",
    "claim order free ", "claim order up", "claim free up", "claim order free up ", "claim order  free up", "claim orderfree up",
    "claim order free up 8", "claim order free NAME", "claim joins", "claim joins up", "claim joins up 8", "claim joins up 8 ",
    "claim joins up  8 11", "claim joins up 8 11 ", "claim joins up 8 11 1", "claim joins 8 up 11", "claim joins NAME N N", "claim joins up N N",
    "claim rounds", "claim rounds up", "claim rounds up 8", "claim rounds up 8 6 ", "claim rounds up 8  6", "claim rounds NAME N N",
    "claim round up 8 6", "claim join up 8 11", "claim holds up", "sound up", "order free up", "lift", "lift ", "lift  0", "lift 0 ",
    " lift 0", "lift 0 0", "lift N", "lift up", "wrong", "wrong ", "wrong up ", "wrong  up", " wrong up", "wrong up 3", "wrong up three",
    "wrong NAME", "joins", "joins up", "joins up ", "joins 8", "joins up  8", "joins up 8 ", "joins up 8 8", "joins 8 up", "joins NAME N",
    "joins up N", "join up 8", "rounds", "rounds up", "rounds up ", "rounds 8 up", "rounds up 8 ", "rounds  up 8", "rounds up 8 8",
    "rounds NAME N", "lead", "lead ", "lead up", "lead  up a", "Lead up a", " lead up a", "lead NAME a", "leads up a", "holds up 8",
    "help", "up", "TEXT", "NAME", "N", "say undo", "undo; undo", "-", "ok", "InvalidText")


class ConsoleCase(unittest.TestCase):

    def setUp(self):
        self.book = Book((UP, THREE))
        self.console = Console(self.book)

    def say(self, line, *answer, console=None):
        """The line has this answer."""
        said = (self.console if console is None else console).say(line)
        self.assertIs(type(said), str)
        self.assertEqual((line, said), (line, *answer))

    def check_none(self, line):
        """This is none of the lines, and nothing is otherwise then."""
        before = self.console.say("show")
        with self.assertRaises(InvalidText) as held:
            self.console.say(line)
        self.assertIs(type(held.exception), InvalidText)
        self.assertIs(held.exception.given, line)
        self.assertEqual(self.console.say("show"), before)

    def check_nothing_to_undo(self):
        self.say("undo", "NothingToUndo")


class LinesTest(ConsoleCase):

    def test_no_books(self):
        for given in NO_BOOKS:
            for call in (lambda: Console(given), lambda: Console(book=given)):
                with self.subTest(given=given):
                    with self.assertRaises(NotABook) as held:
                        call()
                    self.assertIs(type(held.exception), NotABook)
                    self.assertIs(held.exception.given, given)

    def test_each_form_of_line(self):
        for line, answer in LINES:
            console = Console(book=self.book)
            self.say(line, answer, console=console)
            self.assertEqual(Console(self.book).say(line=line), answer)

    def test_books(self):
        self.say("book " + UP_TEXT.replace("\n", " / "), "ok")
        self.say("show", UP_TEXT)
        self.say("names", "up")
        self.say("book " + BOTH_TEXT.replace("\n", " / "), "ok")
        self.say("show", BOTH_TEXT)
        self.say("undo", "ok")
        self.say("show", UP_TEXT)
        self.say("undo", "ok")
        self.say("show", BOTH_TEXT)
        self.check_nothing_to_undo()

    def test_books_that_cannot_be_read(self):
        text = UP_TEXT.replace("\n", " / ")
        for other in ("", " ", text + " ", " " + text, text + " /", text + " / ", "/ " + text, " / " + text, text.replace(" / ", "/"),
                      text.replace(" / ", " /"), text.replace(" / ", "/ "), text.replace(" / ", "  /  "), text.replace(" / ", " / / ", 1),
                      text.replace("up", "Up"), "plan", "x", "show", text + text, text + " / " + text, text.replace(" / ", " \\n ")):
            self.say("book " + other, "InvalidText")
        self.check_nothing_to_undo()
        self.say("show", BOTH_TEXT)

    def test_rounds(self):
        self.say("round up 0: take 1 of 2 right 3; clear 0 of 2", "ok")
        self.say("show", BOTH_TEXT.replace("join 1 of 2 left 1", "take 1 of 2 right 3; clear 0 of 2"))
        self.say("round three 1: call three on 1 of 2", "ok")
        self.say("undo", "ok")
        self.say("undo", "ok")
        self.say("show", BOTH_TEXT)
        for line, answer in (("round up 3: clear 0 of 1", "InvalidPlace"), ("round three 2: clear 0 of 1", "InvalidPlace"),
                             ("round up 100000: ", "InvalidPlace"), ("round no 0: clear 0 of 1", "UnknownPlan"), ("round no 9: ", "UnknownPlan"),
                             ("round up 0: ", "InvalidText"), ("round up 2:  ", "InvalidText"), ("round up 0: clear 0 of 1 ", "InvalidText"),
                             ("round up 0:  clear 0 of 1", "InvalidText"), ("round up 0: clear 0 of 1 / clear 0 of 1", "InvalidText"),
                             ("round up 0: call up on 0 of 1", "InvalidText"), ("round up 0: call no on 0 of 2", "InvalidText"),
                             ("round up 0: : ", "InvalidText"), ("round up 0: round up 0: clear 0 of 1", "InvalidText")):
            self.say(line, answer)
        self.check_nothing_to_undo()
        self.say("show", BOTH_TEXT)

    def test_claims_and_what_breaks_them(self):
        for line in ("claim sound up", "claim order free up", "claim joins up 8 11", "claim rounds up 8 6"):
            self.say(line, "ok")
        for line in ("claim sound three", "claim order free three", "claim joins up 8 10", "claim rounds up 8 5", "round up 0: clear 0 of 1",
                     "book plan a all base 1 / clear 0 of 1", "book plan up all base 1 / join 0 of 1 left 1"):
            self.say(line, "Broken")
        for line in ("claim sound no", "claim order free no", "claim joins no 8 11", "claim rounds no 8 6"):
            self.say(line, "UnknownPlan")
        for line in ("claim joins up 0 11", "claim rounds up 0 6", f"claim joins up {MOST + 1} 0", f"claim rounds no {MOST + 1} 0", "claim joins no 0 0"):
            self.say(line, "InvalidClaim")
        self.say("show", BOTH_TEXT)
        self.say("lift 4", "InvalidPlace")
        for index in (3, 1, 0, 0):
            self.say(f"lift {index}", "ok")
        self.say("lift 0", "InvalidPlace")
        self.say("round up 0: clear 0 of 1", "ok")
        for many in range(9):
            self.say("undo", "ok")
        self.check_nothing_to_undo()
        self.say("lift 0", "InvalidPlace")
        self.say("show", BOTH_TEXT)

    def test_numbers_of_claims_stand_in_their_order(self):
        self.say("claim joins up 8 11", "ok")
        self.say("claim joins up 11 8", "Broken")
        self.say(f"claim joins up 1 {10 ** 39}", "ok")
        self.say(f"claim rounds up {MOST} 78", "ok")
        self.say(f"claim rounds up {MOST} 77", "Broken")
        self.say("claim rounds up 1 0", "ok")

    def test_questions(self):
        self.say("wrong up", "-")
        self.say("wrong three", "three 3 1")
        self.say("wrong no", "UnknownPlan")
        self.say(f"joins up {2 ** 39}", "1099511627735")
        self.say(f"rounds up {2 ** 39}", "78")
        self.say("joins up 1", "0")
        self.say("rounds three 3", "2")
        for word in ("joins", "rounds"):
            for size in ("0", MOST + 1, 10 ** 39):
                self.say(f"{word} up {size}", "InvalidCount")
                self.say(f"{word} no {size}", "UnknownPlan")
            self.say(f"{word} no 1", "UnknownPlan")
        self.check_nothing_to_undo()

    def test_the_plan_that_is_told_may_be_another_one(self):
        self.say("book plan top all base 1 / call low on 0 of 1 / plan low all base 1 / clear 0 of 1", "ok")
        self.say("wrong top", "low 2 0")

    def test_rows(self):
        self.say("lead up a", "a")
        self.say("lead up abcd e fg", "abcd abcde abcdefg")
        self.say("lead three a b c", "a aab abbc")
        self.say("lead up " + " ".join("abcdefghijkl"), " ".join("abcdefghijkl"[:end] for end in range(1, 13)))
        for line in ("lead up ", "lead up  ", "lead up a ", "lead up  a", "lead up a  b", "lead up A", "lead up abcde", "lead up a 1", "lead up a,b",
                     "lead up " + " ".join("abcdefghijklm"), "lead up -"):
            self.say(line, "InvalidPieces")
        self.say("lead no a", "UnknownPlan")
        self.say("lead no ", "UnknownPlan")
        self.check_nothing_to_undo()

    def test_the_nought(self):
        self.say("book plan ahead before base 4 / clear 0 of 1 / plan none all base 1 / clear 0 of 1", "ok")
        self.say("lead ahead a b cd", "- a ab")
        self.say("lead ahead a", "-")
        self.say("lead none a b c d e", "- - - - -")

    def test_too_long(self):
        self.say("book plan grow all base 1 / join 0 of 1 left 1" + " / call low on 0 of 1" * 3 + " / clear 0 of 1 / plan low all base 1"
                 + " / join 0 of 2 right 1; join 1 of 2 left 1" * 5, "ok")
        self.say("lead grow a b", "TooLong")
        self.say("lead grow a", "a")

    def test_undo(self):
        self.check_nothing_to_undo()
        self.say("claim sound up", "ok")
        self.say("claim sound up", "ok")
        self.say("lift 1", "ok")
        self.say("book " + BOTH_TEXT.replace("\n", " / "), "ok")
        for many in range(4):
            self.say("undo", "ok")
        self.check_nothing_to_undo()

    def test_names_of_words_of_the_lines(self):
        for word in WORDS:
            if len(word) > 8:
                continue
            console = Console(Book((plan(word), plan("other", "last 2"))))
            for line, answer in ((f"wrong {word}", f"{word} 3 2"), (f"claim sound {word}", "Broken"), (f"claim order free {word}", "Broken"),
                                 (f"claim joins {word} 8 7", "ok"), (f"claim rounds {word} 8 1", "ok"), (f"joins {word} 8", "7"),
                                 (f"rounds {word} 8", "1"), (f"lead {word} a b c", "a ab bc"), ("names", f"{word} other"),
                                 (f"round {word} 0: join 0 of 1 left 2", "ok"), ("undo", "ok")):
                self.say(line, answer, console=console)
            self.say("claim sound other", "ok", console=console)


class NoLinesTest(ConsoleCase):

    def test_lines_that_are_none(self):
        for line in NO_LINES:
            with self.subTest(line=line):
                self.check_none(line)

    def test_things_that_are_no_strings(self):
        for given in NO_STRINGS + (["undo"], ("undo",), b"undo", b"show", {"undo": 1}, mock.ANY, self.book, Console(self.book), Desk(self.book)):
            with self.subTest(given=given):
                self.check_none(given)

    def test_blanks(self):
        for line, answer in LINES:
            self.check_none(" " + line)
            if not line.startswith(("book", "round up", "lead")):
                self.check_none(line + " ")
            words = line.split(" ")
            fixed = {"book": 1, "round": 3, "lead": 2}.get(words[0], len(words))
            for at in range(1, min(fixed, len(words))):
                self.check_none(" ".join(words[:at]) + "  " + " ".join(words[at:]))
                self.check_none(" ".join(words[:at]) + "\t" + " ".join(words[at:]))
                self.check_none("".join(words[:at]) + "".join(words[at:]))

    def test_newlines_at_any_place(self):
        for line, answer in LINES + (("book ", ""), ("round up 0: ", ""), ("lead up ", "")):
            for at in range(len(line) + 1):
                self.check_none(line[:at] + "\n" + line[at:])
                if at < len(line):
                    self.check_none(line[:at] + "\n" + line[at + 1:])

    def test_numbers(self):
        for number in BAD_NUMBERS:
            for line in ("lift {}", "joins up {}", "rounds up {}", "round up {}: clear 0 of 1", "claim joins up {} 8", "claim joins up 8 {}",
                         "claim rounds up {} 8", "claim rounds up 8 {}"):
                with self.subTest(line=line, number=number):
                    self.check_none(line.format(number))

    def test_names(self):
        for name in BAD_NAMES + ("UP", "NAME", "abcdefghi", "0", "8", "-", "/"):
            for line in ("wrong {}", "joins {} 8", "rounds {} 8", "lead {} a", "claim sound {}", "claim order free {}", "claim joins {} 8 1",
                         "claim rounds {} 8 1", "round {} 0: clear 0 of 1"):
                if (name, line) not in (("a ", "lead {} a"), ("a b", "lead {} a")):
                    with self.subTest(line=line, name=name):
                        self.check_none(line.format(name))
        for name in GOOD_NAMES:
            for line in ("wrong {}", "joins {} 8", "rounds {} 8", "lead {} a", "claim sound {}", "claim order free {}", "claim joins {} 8 1",
                         "claim rounds {} 8 1", "round {} 0: clear 0 of 1"):
                self.say(line.format(name), "UnknownPlan")

    def test_without_the_blank_ahead_of_text(self):
        self.say("book ", "InvalidText")
        self.say("round up 0: ", "InvalidText")
        self.say("lead up ", "InvalidPieces")
        for line in ("book", "round up 0:", "lead up"):
            self.check_none(line)


class LikeADeskTest(ConsoleCase):
    """The same deeds by lines, and by calls of a desk."""

    def answer(self, call):
        try:
            return call()
        except (NotRight, NotThere, CannotBe) as error:
            return type(error).__name__

    def done(self, desk, call):
        def action():
            call(desk)
            return "ok"
        return self.answer(action)

    def some_line(self, chance, desk, books):
        """A line, and the same as a function of nothing."""
        name, number, most = chance.choice(desk.book.names + ("no",)), chance.randrange(0, 9), chance.randrange(0, 40)
        other = chance.choice(books)
        text = chance.choice(other.plans)[3][0]
        pieces = [chance.choice(("a", "bc", "def", "ghij", "a", "b", "")[:6 + number // 8]) for at in range(chance.randrange(1, 14))]
        lines = {
            f"book {str(other)}".replace("\n", " / "): lambda: self.done(desk, lambda one: one.change(other)),
            f"round {name} {number // 4}: {text}":
                lambda: self.done(desk, lambda one: one.change(one.book.changed(name, number // 4, text))),
            "undo": lambda: self.done(desk, Desk.undo),
            f"claim sound {name}": lambda: self.done(desk, lambda one: one.claim(("sound", name))),
            f"claim order free {name}": lambda: self.done(desk, lambda one: one.claim(("order free", name))),
            f"claim joins {name} {number} {most}": lambda: self.done(desk, lambda one: one.claim(("joins", name, number, most))),
            f"claim rounds {name} {number} {most}": lambda: self.done(desk, lambda one: one.claim(("rounds", name, number, most))),
            f"lift {number // 4}": lambda: self.done(desk, lambda one: one.lift(number // 4)),
            f"wrong {name}": lambda: self.answer(lambda: " ".join(map(str, wrong_at(desk.book, name) or "-"))),
            f"joins {name} {number}": lambda: self.answer(lambda: str(joins(desk.book, name, number))),
            f"rounds {name} {number}": lambda: self.answer(lambda: str(rounds(desk.book, name, number))),
            "names": lambda: " ".join(desk.book.names),
            f"lead {name} {' '.join(pieces)}":
                lambda: self.answer(lambda: " ".join(word or "-" for word in Row(desk.book, name, tuple(pieces)).last().words)),
            "show": lambda: str(desk.book),
        }
        return chance.choice(list(lines.items()))

    def test_like_a_desk(self):
        books = some_books(seed=111, many=40, calls=3) + [Book.read(text) for text in SOUND_TEXTS + tuple(text for text, told_of in WRONG_TEXTS)]
        chance = random.Random(112)
        seen = {}
        for turn in range(60):
            book = chance.choice(books)
            desk, console = Desk(book), Console(book)
            for step in range(40):
                line, call = self.some_line(chance, desk, books)
                answer = call()
                self.say(line, answer, console=console)
                self.say("show", str(desk.book), console=console)
                seen[answer] = seen.get(answer, 0) + 1
        for answer in ("ok", "-", "Broken", "UnknownPlan", "InvalidPlace", "InvalidClaim", "InvalidCount", "InvalidText", "InvalidPieces", "NothingToUndo"):
            self.assertGreater(seen[answer], 5, seen)

    def test_a_console_equals_itself_alone(self):
        other = Console(self.book)
        self.assertEqual([self.console == self.console, self.console != self.console], [True, False])
        self.assertEqual([self.console == other, self.console != other], [False, True])
        for value in NO_STRINGS + (self.book, Desk(self.book), "", "up"):
            self.assertEqual([self.console == value, self.console != value], [False, True])
        self.assertIs(bool(self.console), True)

    def test_two_consoles_with_a_book(self):
        other = Console(self.book)
        self.say("book plan a all base 1 / clear 0 of 1", "ok")
        self.say("names", "a")
        self.say("names", "up three", console=other)

    def test_defined_where_it_is_listed(self):
        self.assertEqual(Console.__module__, "joinrounds.console")
        self.assertIn("say", vars(Console))


if __name__ == "__main__":
    unittest.main()
