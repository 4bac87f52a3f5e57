"""Which clauses of plans are in vain, and which single changes mend a plan."""

from joinrounds.books import plan_of
from joinrounds.forms import DIGITS, can_stand
from joinrounds.verdicts import first_wrong


def holds_with(book, plan, texts):
    """Whether a plan of the book would hold at all lengths with these rounds instead of its own."""
    name, goal, base, before = plan
    return first_wrong(book, (name, goal, base, texts)) is None


def without_clause(texts, index, at):
    """The rounds without one clause of the one with this index, or without all of that round
    if this is its only clause."""
    parts = texts[index].split("; ")
    others = parts[:at] + parts[at + 1:]
    instead = ("; ".join(others),) if others else ()
    return texts[:index] + instead + texts[index + 1:]


def digit_changes(text):
    """The texts that differ from this round in just one digit of a clause, ascending."""
    # A digit of a clause stands behind a blank, a digit of a name never does.
    places = [at for at in range(1, len(text)) if text[at] in DIGITS and text[at - 1] == " "]
    return sorted([text[:at] + digit + text[at + 1:]
                   for at in places for digit in DIGITS if digit != text[at]])


def idle(book, name):
    """The pairs (index of a round, index of a clause in it) of the clauses without which the
    plan would hold at all lengths."""
    plan = plan_of(book, name)
    found = []
    for index, text in enumerate(plan[3]):
        for at in range(len(text.split("; "))):
            texts = without_clause(plan[3], index, at)
            # A plan has at least one round.
            if len(texts) > 0 and holds_with(book, plan, texts):
                found.append((index, at))
    return tuple(found)


def mends(book, name):
    """The pairs (index of a round, text) of the rounds with one digit of a clause otherwise
    with which the plan would hold at all lengths."""
    plan = plan_of(book, name)
    at = book.find_plan(name)
    found = []
    for index, text in enumerate(plan[3]):
        for other in digit_changes(text):
            texts = plan[3][:index] + (other,) + plan[3][index + 1:]
            if can_stand(other, book.names, at) and holds_with(book, plan, texts):
                found.append((index, other))
    return tuple(found)
