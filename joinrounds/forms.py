"""The forms of integers, counts, names, pieces, goals, clauses and rounds."""

from joinrounds.limits import MOST_CLASSES, MOST_CLAUSES, MOST_FAR, MOST_LAST

LONGEST_NAME = 8
LONGEST_PIECE = 4
LETTERS = "abcdefghijklmnopqrstuvwxyz"
DIGITS = "0123456789"
# Behind so many places the classes with the divisors 1, 2 and 3 come again as they were.
PERIOD = 6


def is_integer(value):
    """Whether this is an integer; True and False are none."""
    return isinstance(value, int) and not isinstance(value, bool)


def is_count(value, most):
    """Whether this is an integer from 1 to the most."""
    return is_integer(value) and 1 <= value <= most


def is_index(value, many):
    """Whether this is an index of so many elements."""
    return is_integer(value) and 0 <= value < many


def is_name(value):
    """Whether this is a string that a plan may have as its name."""
    if not isinstance(value, str) or not 1 <= len(value) <= LONGEST_NAME:
        return False
    return value[0] in LETTERS and all([sign in LETTERS + DIGITS for sign in value])


def is_piece(value):
    """Whether this is a string that a row of texts may have as a piece."""
    if not isinstance(value, str) or not 1 <= len(value) <= LONGEST_PIECE:
        return False
    return all([sign in LETTERS for sign in value])


def is_goal(value):
    """Whether this is a goal of a plan."""
    lasts = [f"last {many}" for many in range(1, MOST_LAST + 1)]
    return isinstance(value, str) and value in ["all", "before"] + lasts


def last_of(goal):
    """How many pieces a goal is about at most, None if it begins with the first one."""
    if goal in ("all", "before"):
        return None
    return int(goal[-1])


def goal_span(goal, place):
    """The pair (start, end): the place is to hold the join of the pieces from start to end - 1."""
    many = last_of(goal)
    if goal == "before":
        return 0, place
    if many is None:
        return 0, place + 1
    return max(0, place + 1 - many), place + 1


def read_digit(word, low, high):
    """The integer from low to high that this word is, None if it is no such digit."""
    # int() alone would also take blanks, signs and zeros ahead.
    if word in [str(number) for number in range(low, high + 1)]:
        return int(word)
    return None


def read_class(words):
    """The pair (remainder, divisor) of the words E, of, M; None if they are no class."""
    if len(words) != 3 or words[1] != "of":
        return None
    divisor = read_digit(words[2], 1, MOST_CLASSES)
    if divisor is None:
        return None
    remainder = read_digit(words[0], 0, divisor - 1)
    if remainder is None:
        return None
    return remainder, divisor


def read_way(words):
    """How far from its own place a clause reads, below 0 to the left; None if not told."""
    if len(words) != 2 or words[0] not in ("left", "right"):
        return None
    far = read_digit(words[1], 1, MOST_FAR)
    if far is None or words[0] == "right":
        return far
    return -far


def put_clause(deed, place, more):
    """The tuple of a clause, None if its class or the rest of it could not be read."""
    if place is None or more is None:
        return None
    remainder, divisor = place
    return deed, remainder, divisor, more


def read_clause(text):
    """The clause as a tuple (deed, remainder, divisor, more), None if this is no clause.

    More is how far a join or take reads, 0 for a clear, the name for a call.
    """
    words = text.split(" ")
    deed = words[0]
    if deed in ("join", "take"):
        return put_clause(deed, read_class(words[1:4]), read_way(words[4:]))
    if deed == "clear":
        return put_clause(deed, read_class(words[1:]), 0)
    if deed == "call" and len(words) == 6 and is_name(words[1]) and words[2] == "on":
        return put_clause(deed, read_class(words[3:]), words[1])
    return None


def share_place(clause, other):
    """Whether the classes of two clauses have a place in common in a long enough row."""
    remainder, divisor = clause[1:3]
    other_remainder, other_divisor = other[1:3]
    # Behind the product of the divisors the remainders come again as they were.
    return any([place % divisor == remainder and place % other_divisor == other_remainder
                for place in range(divisor * other_divisor)])


def fit_together(clauses):
    """Whether all clauses are calls or none, and no place is in two of their classes."""
    calls = [clause[0] == "call" for clause in clauses]
    if any(calls) and not all(calls):
        return False
    return not any([share_place(clause, other)
                    for at, clause in enumerate(clauses) for other in clauses[:at]])


def read_round(text):
    """The tuple of the clauses of a round, whatever names its calls have.

    None for anything that is no round.
    """
    if not isinstance(text, str):
        return None
    clauses = [read_clause(part) for part in text.split("; ")]
    if len(clauses) > MOST_CLAUSES or None in clauses or not fit_together(clauses):
        return None
    return tuple(clauses)


def can_stand(text, names, at):
    """Whether this is a round whose calls can stand in the plan with the index `at`.

    The names are those of the plans of the book in their order.
    """
    clauses = read_round(text)
    if clauses is None:
        return False
    for deed, remainder, divisor, more in clauses:
        # A call on all places is on a row as long as its own: only plans further
        # down keep such calls from going on without an end.
        lowest = at + 1 if divisor == 1 else 0
        if deed == "call" and more not in names[lowest:]:
            return False
    return True
