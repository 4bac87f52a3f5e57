"""How many joins and rounds the leading of plans takes."""

from joinrounds.books import plan_of, read_book
from joinrounds.errors import InvalidCount
from joinrounds.forms import goal_span, is_count
from joinrounds.limits import MOST_SIZE


def class_size(remainder, divisor, size):
    """How many of the first `size` places are in a class, none if that is below 0."""
    return len(range(remainder, size, divisor))


def clause_joins(clause, size):
    """How many joins a clause, other than a call, does on a row of this length."""
    deed, remainder, divisor, far = clause
    if deed != "join":
        return 0
    if far > 0:
        return class_size(remainder, divisor, size - far)
    # The first places have none so far to the left.
    return class_size(remainder, divisor, size) - class_size(remainder, divisor, min(size, -far))


def plain_joins(goal, size):
    """How many joins each place of a plain row of this length takes."""
    spans = [goal_span(goal, place) for place in range(size)]
    return [max(0, end - start - 1) for start, end in spans]


def clause_counts(clause, size, counted):
    """The pair of the joins and the rounds of a clause on a row of this length.

    Counted has the pairs of all rows with places that it may call.
    """
    deed, remainder, divisor, more = clause
    if deed != "call":
        return clause_joins(clause, size), 1
    if remainder >= size:
        return 0, 0
    return counted[(more, class_size(remainder, divisor, size))]


def plan_counts(plan, size, counted):
    """The pair of the joins and the rounds of a plan, calls included, on a row of this length."""
    goal, base, told = plan
    if size <= base:
        joined = plain_joins(goal, size)
        return sum(joined), max(joined)
    many = 0
    done = 0
    for clauses in told:
        parts = [clause_counts(clause, size, counted) for clause in clauses]
        many += sum([part[0] for part in parts])
        done += max([part[1] for part in parts])
    return many, done


def called_rows(plan, size):
    """The pairs (name, length) of the rows with places that a plan calls on a row of this length."""
    goal, base, told = plan
    if size <= base:
        return []
    return [(more, class_size(remainder, divisor, size))
            for clauses in told for deed, remainder, divisor, more in clauses
            if deed == "call" and remainder < size]


def rows_below(plans, first):
    """The pairs (name, length) of the first row and of all that are called for it, once each.

    Each row stands behind those that it calls.
    """
    waiting = [first]
    found = {first: True}
    while waiting:
        name, size = waiting.pop()
        for row in called_rows(plans[name], size):
            if row not in found:
                found[row] = True
                waiting.append(row)
    # Called rows are shorter, or as long and of a plan further down in the book.
    order = list(plans)
    return sorted(list(found), key=lambda row: (row[1], -order.index(row[0])))


def row_counts(book, name, size):
    """The pair of the joins and the rounds of leading the plan on a row of this length."""
    plan_of(book, name)
    if not is_count(size, MOST_SIZE):
        raise InvalidCount(size)
    plans = read_book(book)
    counted = {}
    # Of a great length there are few different lengths below, so each row is counted once.
    for called, many in rows_below(plans, (name, size)):
        counted[(called, many)] = plan_counts(plans[called], many, counted)
    return counted[(name, size)]


def joins(book, name, size):
    """How many joins leading the plan on a row of this length takes."""
    return row_counts(book, name, size)[0]


def rounds(book, name, size):
    """How many rounds leading the plan on a row of this length takes."""
    return row_counts(book, name, size)[1]
