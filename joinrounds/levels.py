"""Levels of plans: what the places hold round by round, as runs of pieces."""

from joinrounds.books import plan_of
from joinrounds.errors import InvalidCount
from joinrounds.forms import is_count, last_of, read_round
from joinrounds.limits import MOST_LEVEL

NOUGHT = (0, 0)


def join_runs(run, other):
    """The join of what two places hold, in this order; None for what is spoilt."""
    if run is None or other is None:
        return None
    if run == NOUGHT:
        return other
    if other == NOUGHT:
        return run
    if run[1] != other[0]:
        return None
    return run[0], other[1]


def join_all(words):
    """For each of the words the join of all up to it."""
    joined = []
    so_far = NOUGHT
    for word in words:
        so_far = join_runs(so_far, word)
        joined.append(so_far)
    return joined


def join_last(words, many):
    """For each of the words the join of so many up to it."""
    return [join_all(words[max(0, end - many):end])[-1] for end in range(1, len(words) + 1)]


def goal_words(goal, words):
    """What the goal says for each place of a row whose pieces are these words."""
    many = last_of(goal)
    if many is not None:
        return join_last(words, many)
    if goal == "before":
        return join_all([NOUGHT, *words][:-1])
    return join_all(words)


def first_words(size):
    """What the places of a row of this length hold at first."""
    return [(place, place + 1) for place in range(size)]


def next_word(words, place, deed, far):
    """What a clause, other than a call, puts into a place."""
    source = place + far
    if deed == "clear":
        return NOUGHT
    if not 0 <= source < len(words):
        return words[place] if deed == "join" else NOUGHT
    if deed == "take":
        return words[source]
    if far < 0:
        return join_runs(words[source], words[place])
    return join_runs(words[place], words[source])


def changed_words(words, clause):
    """What a clause puts into the places of its class, in their order."""
    deed, remainder, divisor, more = clause
    if deed == "call":
        return goal_words(more, words[remainder::divisor])
    return [next_word(words, place, deed, more) for place in range(remainder, len(words), divisor)]


def next_words(words, clauses):
    """What the places hold behind a round, these being the words ahead of it."""
    after = list(words)
    for clause in clauses:
        deed, remainder, divisor, more = clause
        # Each clause reads the words ahead of the round: all places change at once.
        for at, word in enumerate(changed_words(words, clause)):
            after[remainder + at * divisor] = word
    return after


def told_clause(book, clause):
    """The clause; a call with the goal of the called plan instead of its name."""
    deed, remainder, divisor, more = clause
    if deed == "call":
        return deed, remainder, divisor, book.plan(more)[1]
    return clause


def told_rounds(book, plan):
    """The rounds of a plan of this book as lists of clauses, calls with goals for names."""
    return [[told_clause(book, clause) for clause in read_round(text)] for text in plan[3]]


def wrong_place(goal, rounds, size):
    """The least place that does not hold what the goal says, None if there is none.

    That is behind these rounds of a level of this length, whatever the base.
    """
    words = first_words(size)
    told = goal_words(goal, words)
    for clauses in rounds:
        words = next_words(words, clauses)
    for place, word in enumerate(words):
        if word != told[place]:
            return place
    return None


def level(book, name, size):
    """What the places hold in the level of the plan at this length, at first and behind each round."""
    plan = plan_of(book, name)
    if not is_count(size, MOST_LEVEL):
        raise InvalidCount(size)
    words = first_words(size)
    held = [tuple(words)]
    for clauses in told_rounds(book, plan):
        words = next_words(words, clauses)
        held.append(tuple(words))
    return tuple(held)


def holds(book, name, size):
    """Whether the plan holds at this length."""
    plan = plan_of(book, name)
    if not is_count(size, MOST_LEVEL):
        raise InvalidCount(size)
    return size <= plan[2] or wrong_place(plan[1], told_rounds(book, plan), size) is None
