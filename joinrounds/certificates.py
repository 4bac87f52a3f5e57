"""Claims for the checker, with the certificates that it accepts for them."""

from joinrounds.books import plan_of
from joinrounds.errors import InvalidCount
from joinrounds.forms import LETTERS, is_count
from joinrounds.hazards import hazards
from joinrounds.levels import holds, level
from joinrounds.limits import MOST_LEVEL, MOST_PIECES
from joinrounds.rows import Row, least_wrong
from joinrounds.verdicts import wrong_at


def certify_holds(book, name, size):
    """The claim that the plan holds at this length, and its certificate; None if it does not."""
    if not holds(book, name, size):
        return None
    return ("holds", str(book), name, size), level(book, name, size)


def certify_wrong(book, name):
    """The claim that a plan goes wrong where `wrong_at` tells it, and its certificate.

    None if it tells of nothing, or of a length for which there are no certificates.
    """
    wrong = wrong_at(book, name)
    if wrong is None or wrong[1] > MOST_LEVEL:
        return None
    used, size, place = wrong
    return ("wrong", str(book), used, size, place), level(book, used, size)


def certify_hazard(book, name):
    """The claim that the first round with a hazard has one, and its certificate; None if there is none."""
    found = hazards(book, name)
    if len(found) == 0:
        return None
    index, size, place = found[0]
    return ("hazard", str(book), name, size, place), index


def certify_differs(book, name, size):
    """The claim that the plan, led on so many letters, does not do what its goal says, and its
    certificate; None if it does."""
    plan_of(book, name)
    if not is_count(size, MOST_PIECES):
        raise InvalidCount(size)
    pieces = tuple(LETTERS[:size])
    place = least_wrong(Row(book, name, pieces))
    if place is None:
        return None
    return ("differs", str(book), name, pieces), place
