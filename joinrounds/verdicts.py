"""Verdicts: which plans a plan uses, and whether and where it goes wrong.

Why finitely many lengths decide whether a plan holds at all of them:

Call an integer in a run low if it is at most `top`, and high otherwise. To move a run is to
raise its high integers by PERIOD and to leave its low ones; the nought and what is spoilt
stay as they are. Two words meet just if they meet when both are moved, so the join of moved
words is the moved join. Ahead of the first round and behind each one there are integers
begin, back, ahead and top with begin - back > top >= 0 for which this is true:
(1) What a place p holds does not depend on places behind p + ahead, nor on whether there
    are any, and a run at p does not end behind p + 1 + ahead.
(2) Each high integer in a run at a place p from begin on is at least p - back. (So from
    back + top + 1 on it is high for a greater top as well.)
(3) At a length n from begin + ahead on, what p from begin on holds, moved, is what p + PERIOD
    holds at n + PERIOD.
At first p holds (p, p + 1), and 1, 0, 0, 0 will do.

A join or take to the left by D reads from p - D. From begin + D on this can be moved, and its
high integers are at least p - D - back: D is added to begin and back. What reads to the right
by D adds D to ahead. A call for the last K on a class with the divisor M reads up to
(K - 1) * M to the left: this is added to begin and back.

A call for all, or all before, joins the words of a class from the left. From begin on they are
the moved ones of PERIOD places before, but for so many places at the right end as ahead says.
- If one of these words is spoilt, so is all from begin + PERIOD on.
- If all are the nought, the join stays what it was at begin, by (1) with an end of at most
  begin + ahead.
- Else take those that are not the nought. Each two neighbours among them meet in all periods
  or in none. If two do not, all is spoilt behind two periods. If all do, no start is low: it
  would be the end of the one before, whose start would be low as well, and less, and so on,
  without an end, though after a period the same low integers come again. So behind the first
  period the join has a high end, from at most PERIOD + ahead places before p, and a start of
  at most begin + PERIOD - 1 + ahead, which stays; or it is spoilt, since what stood there
  before begin does not meet the first of these words.
So (1) to (3) hold again with PERIOD + ahead more in back, begin + PERIOD - 1 + ahead as top,
and back + top + 1 as begin, which is behind the two periods. What follows at the right end
moves together with the join that it is joined to.

What a goal says for a place from begin on moves, too, if begin is at least top + K for the
last K. Let n be the least length at which the plan does not hold, and p a wrong place there.
Say n > begin + ahead + PERIOD and n > base + PERIOD. If p < begin + PERIOD, then by (1) it
holds the same at n - 1, and is wrong there. If not, then p - PERIOD is wrong at n - PERIOD by
(3). As n is the least one, neither is so: a plan that goes wrong does so at a length up to
the greater one of begin + ahead + PERIOD and base + PERIOD.
"""

from joinrounds.books import plan_of
from joinrounds.forms import PERIOD, last_of, read_round
from joinrounds.levels import told_rounds, wrong_place


def behind_clause(bounds, clause):
    """What this clause makes of begin, back, ahead and top, which the argument above names."""
    begin, back, ahead, top = bounds
    deed, remainder, divisor, more = clause
    if deed == "call":
        many = last_of(more)
        if many is None:
            return begin, back + PERIOD + ahead, ahead, begin + PERIOD - 1 + ahead
        more = -(many - 1) * divisor
    if more < 0:
        return begin - more, back - more, ahead, top
    return begin, back, ahead + more, top


def behind_round(bounds, clauses):
    """The bounds behind a round: those that are enough for each of its clauses."""
    parts = [behind_clause(bounds, clause) for clause in clauses]
    begin, back, ahead, top = [max([part[at] for part in parts]) for at in range(4)]
    return max(begin, back + top + 1), back, ahead, top


def deciding_size(plan, rounds):
    """A length such that the plan holds at all lengths if it does so up to this one.

    The rounds are those of the plan, calls with goals for names.
    """
    name, goal, base, texts = plan
    bounds = (1, 0, 0, 0)
    for clauses in rounds:
        bounds = behind_round(bounds, clauses)
    begin, back, ahead, top = bounds
    many = last_of(goal)
    if many is not None:
        begin = max(begin, top + many)
    return max(begin + ahead, base) + PERIOD


def first_wrong(book, plan):
    """The pair of the least length at which this plan of the book does not hold, and the
    least wrong place there; None if it holds at all lengths, whatever the plans do that it calls.
    """
    name, goal, base, texts = plan
    rounds = told_rounds(book, plan)
    for size in range(base + 1, deciding_size(plan, rounds) + 1):
        place = wrong_place(goal, rounds, size)
        if place is not None:
            return size, place
    return None


def called_names(plan):
    """The names of the plans that a plan calls, as often as it does."""
    return [more for text in plan[3] for deed, remainder, divisor, more in read_round(text)
            if deed == "call"]


def uses(book, name):
    """The names of the plans that a plan uses, in the order of the book."""
    waiting = [plan_of(book, name)]
    used = [name]
    while waiting:
        plan = waiting.pop()
        for called in called_names(plan):
            if called not in used:
                used.append(called)
                waiting.append(book.plan(called))
    return tuple([one for one in book.names if one in used])


def wrong_at(book, name):
    """The triple (name, size, place) of where a plan that this one uses first goes wrong.

    None if the plan is sound.
    """
    found = []
    for used in uses(book, name):
        wrong = first_wrong(book, book.plan(used))
        if wrong is not None:
            found.append((used, *wrong))
    # Of several with the least length this is the first one, as they are in the book's order.
    return min(found, key=lambda one: one[1], default=None)


def is_sound(book, name):
    """Whether the plan is sound."""
    return wrong_at(book, name) is None
