"""The checker: whether a certificate shows a claim about the plans of a book."""

from joinrounds.books import Book
from joinrounds.errors import InvalidCount, InvalidPieces, InvalidText, TooLong, UnknownPlan
from joinrounds.forms import is_count, is_index, is_integer, read_round
from joinrounds.hazards import hazard_places
from joinrounds.levels import goal_words, holds, level
from joinrounds.limits import MOST_LEVEL
from joinrounds.rows import Row, least_wrong


def is_same(value, right):
    """Whether a value is this one, which consists of tuples, integers and None."""
    if right is None:
        return value is None
    if not isinstance(right, tuple):
        # True and False would equal 1 and 0.
        return is_integer(value) and value == right
    if not isinstance(value, tuple) or len(value) != len(right):
        return False
    return all([is_same(one, other) for one, other in zip(value, right)])


def accepts_holds(book, certificate, name, size):
    """Whether the certificate is the level of the plan at this length, and the plan holds there."""
    return is_same(certificate, level(book, name, size)) and holds(book, name, size)


def accepts_wrong(book, certificate, name, size, place):
    """Whether the certificate is the level of the plan at this length, and the place is wrong in it."""
    goal, base = book.plan(name)[1:3]
    held = level(book, name, size)
    if size <= base or not is_index(place, size) or not is_same(certificate, held):
        return False
    return held[-1][place] != goal_words(goal, held[0])[place]


def accepts_hazard(book, certificate, name, size, place):
    """Whether the certificate is the index of a round of which the place is a hazard."""
    texts = book.plan(name)[3]
    if not is_count(size, MOST_LEVEL) or not is_index(place, size) or not is_index(certificate, len(texts)):
        return False
    return place in hazard_places(read_round(texts[certificate]), size)


def accepts_differs(book, certificate, name, pieces):
    """Whether the certificate is the least place that is wrong when the plan is led on these pieces."""
    place = least_wrong(Row(book, name, pieces))
    return place is not None and is_same(certificate, place)


# For each word how many elements its claims have, and what looks at what they claim.
LENGTHS = {"holds": 4, "wrong": 5, "hazard": 5, "differs": 4}
CHECKS = {"holds": accepts_holds, "wrong": accepts_wrong, "hazard": accepts_hazard, "differs": accepts_differs}


def accepts(claim, certificate):
    """Whether this is a claim for the checker and a certificate for it, whatever both are."""
    if not isinstance(claim, tuple) or len(claim) == 0 or not isinstance(claim[0], str):
        return False
    word = claim[0]
    if word not in CHECKS or len(claim) != LENGTHS[word]:
        return False
    check = CHECKS[word]
    rest = claim[2:]
    try:
        book = Book.read(claim[1])
        return check(book, certificate, *rest)
    except (InvalidText, UnknownPlan, InvalidCount, InvalidPieces, TooLong):
        return False
