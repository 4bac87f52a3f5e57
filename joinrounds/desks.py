"""Desks: a book of plans, with claims that hold after each change."""

from joinrounds.books import check_book
from joinrounds.counts import joins, rounds
from joinrounds.errors import Broken, InvalidClaim, InvalidPlace, NothingToUndo
from joinrounds.forms import is_count, is_index, is_integer
from joinrounds.hazards import hazards
from joinrounds.limits import MOST_CLAIMED
from joinrounds.verdicts import wrong_at


def is_claim(value):
    """Whether this is a claim for a desk, whatever stands in it as the name of a plan."""
    if not isinstance(value, tuple) or len(value) == 0 or not isinstance(value[0], str):
        return False
    if value[0] in ("sound", "order free"):
        return len(value) == 2
    if value[0] not in ("joins", "rounds") or len(value) != 4:
        return False
    size, most = value[2:]
    return is_count(size, MOST_CLAIMED) and is_integer(most) and most >= 0


def asked(book, claim):
    """The pair of whether a claim holds for a book, and what is to be shown if it does not."""
    word, name, *numbers = claim
    if name not in book.names:
        return False, None
    if word == "sound":
        wrong = wrong_at(book, name)
        return wrong is None, wrong
    if word == "order free":
        found = hazards(book, name)
        return len(found) == 0, found
    size, most = numbers
    many = joins(book, name, size) if word == "joins" else rounds(book, name, size)
    return many <= most, many


def check_claim(book, index, claim):
    """Raises Broken if the claim with this index does not hold for the book."""
    right, shown = asked(book, claim)
    if not right:
        raise Broken(index, shown)


class Mark:
    """What tells one object from all others: it equals itself alone."""


class State:
    """What a desk has at one time, and the state that is back when its last deed is taken back.

    Never changed, so that desks and trials can keep it.
    """

    def __init__(self, source, claimed, before, many):
        self.source = source
        self.claimed = claimed
        self.before = before
        self.many = many


class Begun:
    """The state with which the rows of a trial began, and what the trial is in the midst of besides."""

    def __init__(self, state, around):
        self.state = state
        self.around = around


class Trial:
    """What brings a desk back to where it was if rows end with an exception."""

    def __init__(self, desk):
        self.desk = desk
        self.begun = None
        self.mark = Mark()

    def __enter__(self):
        # It may be used within itself, so what it has begun before is kept.
        self.begun = Begun(self.desk.state, self.begun)
        return self.desk

    def __exit__(self, kind, value, trace):
        if kind is not None:
            self.desk.state = self.begun.state
        self.begun = self.begun.around

    def __eq__(self, other):
        return isinstance(other, Trial) and self.mark == other.mark


class Desk:
    """A book and a row of claims that hold for it."""

    def __init__(self, book):
        check_book(book)
        self.state = State(book, (), None, 0)
        self.mark = Mark()

    @property
    def book(self):
        """The book."""
        return self.state.source

    @property
    def claims(self):
        """The tuple of the claims in their order."""
        return self.state.claimed

    @property
    def changes(self):
        """How many changes can be taken back."""
        return self.state.many

    def put(self, book, claims):
        """Another book and claims, in a way that can be taken back."""
        self.state = State(book, claims, self.state, self.state.many + 1)

    def change(self, book):
        """Another book."""
        check_book(book)
        for index, claim in enumerate(self.claims):
            check_claim(book, index, claim)
        self.put(book, self.claims)

    def claim(self, claim):
        """A claim more, behind the others."""
        if not is_claim(claim):
            raise InvalidClaim(claim)
        # This raises UnknownPlan where there is no such plan.
        self.book.plan(claim[1])
        check_claim(self.book, len(self.claims), claim)
        self.put(self.book, self.claims + (claim,))

    def lift(self, index):
        """Takes the claim with this index away."""
        claims = self.claims
        if not is_index(index, len(claims)):
            raise InvalidPlace(index)
        self.put(self.book, claims[:index] + claims[index + 1:])

    def undo(self):
        """Takes back the last change, claim or lifting."""
        if self.state.before is None:
            raise NothingToUndo()
        self.state = self.state.before

    def trial(self):
        """What brings this desk back if the rows of a `with` statement end with an exception."""
        return Trial(self)

    def tried(self, action):
        """What the function returns that is called with this desk within a trial."""
        with self.trial() as desk:
            return action(desk)

    def __eq__(self, other):
        return isinstance(other, Desk) and self.mark == other.mark
