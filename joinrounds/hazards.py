"""Hazards: places that a round both changes and reads from another place."""

from joinrounds.books import plan_of
from joinrounds.forms import PERIOD, read_round
from joinrounds.limits import MOST_FAR


def is_place(place, size):
    """Whether a row of this length has this place."""
    return 0 <= place < size


def done_places(clause, size):
    """The places at which a clause, other than a call, does something."""
    deed, remainder, divisor, far = clause
    return [place for place in range(remainder, size, divisor)
            if deed != "join" or is_place(place + far, size)]


def read_places(clause, size):
    """The places that a clause, other than a call, reads from other places."""
    deed, remainder, divisor, far = clause
    if deed == "clear":
        return []
    return [place + far for place in range(remainder, size, divisor) if is_place(place + far, size)]


def hazard_places(clauses, size):
    """The hazards of a round at this length, not always ascending; a round with calls has none."""
    if clauses[0][0] == "call":
        return []
    sources = [place for clause in clauses for place in read_places(clause, size)]
    changed = [place for clause in clauses for place in done_places(clause, size)]
    return [place for place in changed if place in sources]


def first_hazard(clauses):
    """The pair of the least length at which a round has a hazard, and the least hazard there.

    None if it has none at any length.
    """
    # These lengths are enough. All places that matter for a hazard, the changed one, the one that
    # it reads and the one that reads it, are at most MOST_FAR places to both sides of the first.
    # If the leftmost one is not among the first PERIOD places, the same clauses make a hazard so
    # many places to the left; and the row need not go on behind the rightmost one.
    for size in range(1, PERIOD + 2 * MOST_FAR + 1):
        places = hazard_places(clauses, size)
        if len(places) > 0:
            return size, min(places)
    return None


def hazards(book, name):
    """The triples (index, size, place) of the rounds with a hazard, and of their first ones."""
    found = []
    for index, text in enumerate(plan_of(book, name)[3]):
        first = first_hazard(read_round(text))
        if first is not None:
            found.append((index, *first))
    return tuple(found)
