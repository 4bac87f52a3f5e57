"""Consoles: desks by lines."""

from joinrounds.books import Book
from joinrounds.counts import joins, rounds
from joinrounds.desks import Desk
from joinrounds.errors import (Broken, InvalidClaim, InvalidCount, InvalidPieces, InvalidPlace, InvalidText,
                               NothingToUndo, TooLong, UnknownPlan)
from joinrounds.forms import DIGITS, is_name
from joinrounds.rows import Row
from joinrounds.verdicts import wrong_at

DONE = "ok"


def put_book(desk, text):
    """Another book, each ` / ` in its text standing for a newline."""
    desk.change(Book.read(text.replace(" / ", "\n")))
    return DONE


def put_round(desk, name, index, text):
    """The book with another round."""
    desk.change(desk.book.changed(name, index, text))
    return DONE


def undo_deed(desk):
    """What was done last is taken back."""
    desk.undo()
    return DONE


def claim_sound(desk, name):
    """The claim that a plan is sound."""
    desk.claim(("sound", name))
    return DONE


def claim_order_free(desk, name):
    """The claim that no round of a plan has a hazard."""
    desk.claim(("order free", name))
    return DONE


def claim_joins(desk, name, size, most):
    """The claim that a plan takes at most so many joins."""
    desk.claim(("joins", name, size, most))
    return DONE


def claim_rounds(desk, name, size, most):
    """The claim that a plan takes at most so many rounds."""
    desk.claim(("rounds", name, size, most))
    return DONE


def lift_claim(desk, index):
    """A claim is taken away."""
    desk.lift(index)
    return DONE


def tell_wrong(desk, name):
    """Where a plan that this one uses first goes wrong."""
    wrong = wrong_at(desk.book, name)
    if wrong is None:
        return "-"
    return " ".join([str(part) for part in wrong])


def tell_joins(desk, name, size):
    """How many joins a plan takes."""
    return str(joins(desk.book, name, size))


def tell_rounds(desk, name, size):
    """How many rounds a plan takes."""
    return str(rounds(desk.book, name, size))


def tell_names(desk):
    """The names of the plans."""
    return " ".join(desk.book.names)


def lead_row(desk, name, text):
    """The words at the end of a row."""
    words = Row(desk.book, name, tuple(text.split(" "))).last().words
    # The nought, the empty text, would not be seen.
    return " ".join([word if word != "" else "-" for word in words])


def show_book(desk):
    """The text of the book."""
    return str(desk.book)


# The forms of the lines, and what answers them: NAME stands for a name, N for a number, TEXT for any text.
ANSWERS = {
    "book TEXT": put_book,
    "round NAME N: TEXT": put_round,
    "undo": undo_deed,
    "claim sound NAME": claim_sound,
    "claim order free NAME": claim_order_free,
    "claim joins NAME N N": claim_joins,
    "claim rounds NAME N N": claim_rounds,
    "lift N": lift_claim,
    "wrong NAME": tell_wrong,
    "joins NAME N": tell_joins,
    "rounds NAME N": tell_rounds,
    "names": tell_names,
    "lead NAME TEXT": lead_row,
    "show": show_book,
}


def is_number(part):
    """Whether these are the digits of a number, without a 0 ahead of others."""
    if part == "" or not all([sign in DIGITS for sign in part]):
        return False
    return part == "0" or part[0] != "0"


def read_part(part, word):
    """The list of the values of a part of a line that is to be as this word of a form; None if it is not."""
    if word.endswith(":"):
        return read_part(part[:-1], word[:-1]) if part.endswith(":") else None
    if word == "TEXT":
        return [part]
    if word == "NAME":
        return [part] if is_name(part) else None
    if word == "N":
        return [int(part)] if is_number(part) else None
    return [] if part == word else None


def read_form(line, form):
    """The list of the values of a line of this form; None if it is of another one."""
    words = form.split(" ")
    # The last part has all blanks that are left: a text may have some, nothing else does.
    parts = line.split(" ", len(words) - 1)
    if len(parts) != len(words):
        return None
    values = [read_part(part, word) for part, word in zip(parts, words)]
    if None in values:
        return None
    return [one for value in values for one in value]


def read_line(line):
    """The pair of the form of a line and the list of its values."""
    if not isinstance(line, str) or "\n" in line:
        raise InvalidText(line)
    for form in ANSWERS:
        values = read_form(line, form)
        if values is not None:
            return form, values
    raise InvalidText(line)


class Console:
    """A desk by lines."""

    def __init__(self, book):
        self.desk = Desk(book)

    def say(self, line):
        """The answer to a line, for an error the name of its class."""
        form, values = read_line(line)
        answer = ANSWERS[form]
        try:
            return answer(self.desk, *values)
        except InvalidText:
            return "InvalidText"
        except InvalidCount:
            return "InvalidCount"
        except InvalidPlace:
            return "InvalidPlace"
        except InvalidClaim:
            return "InvalidClaim"
        except InvalidPieces:
            return "InvalidPieces"
        except UnknownPlan:
            return "UnknownPlan"
        except TooLong:
            return "TooLong"
        except Broken:
            return "Broken"
        except NothingToUndo:
            return "NothingToUndo"

    def __eq__(self, other):
        return isinstance(other, Console) and self.desk == other.desk
