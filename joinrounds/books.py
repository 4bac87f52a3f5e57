"""Books of plans."""

from joinrounds.errors import InvalidPlace, InvalidPlans, InvalidText, NotABook, UnknownPlan
from joinrounds.forms import can_stand, is_goal, is_index, is_integer, is_name, read_digit, read_round
from joinrounds.limits import MOST_BASE, MOST_PLANS, MOST_ROUNDS


def are_rounds(value):
    """Whether this is a tuple of rounds for a plan, whatever names their calls have."""
    if not isinstance(value, tuple) or not 1 <= len(value) <= MOST_ROUNDS:
        return False
    return all([read_round(text) is not None for text in value])


def is_plan(value):
    """Whether this by itself is a plan, whatever names its calls have."""
    if not isinstance(value, tuple) or len(value) != 4:
        return False
    name, goal, base, rounds = value
    if not is_integer(base) or not 1 <= base <= MOST_BASE:
        return False
    return is_name(name) and is_goal(goal) and are_rounds(rounds)


def check_plans(plans):
    """Raises InvalidPlans if these are not the plans of a book."""
    if not isinstance(plans, tuple) or len(plans) == 0:
        raise InvalidPlans(None)
    names = []
    for at, plan in enumerate(plans):
        if at == MOST_PLANS or not is_plan(plan) or plan[0] in names:
            raise InvalidPlans(at)
        names.append(plan[0])
    # Calls may name plans further down, so all names come first.
    for at, plan in enumerate(plans):
        if not all([can_stand(text, names, at) for text in plan[3]]):
            raise InvalidPlans(at)


def plan_text(plan):
    """The lines of a plan in the text of its book."""
    name, goal, base, rounds = plan
    return "\n".join([f"plan {name} {goal} base {base}", *rounds])


def read_plan(text):
    """The tuple of a plan whose lines, but for the word plan ahead, are this text.

    If it is no such text, the tuple is no plan.
    """
    head, *rounds = text.split("\n")
    start, word, base = head.rpartition(" base ")
    name, blank, goal = start.partition(" ")
    return name, goal, read_digit(base, 1, MOST_BASE), tuple(rounds)


def read_plans(text):
    """The tuple of the plans in this text; if it is no text of a book, they are none."""
    # With a newline ahead the first plan begins as all others do.
    ahead, *parts = ("\n" + text).split("\nplan ")
    if ahead != "":
        return ()
    return tuple([read_plan(part) for part in parts])


class Book:
    """One to four plans with different names, in an order."""

    def __init__(self, plans):
        check_plans(plans)
        self.kept = plans

    @classmethod
    def read(cls, text):
        """The book with this text."""
        if not isinstance(text, str):
            raise InvalidText(text)
        try:
            return cls(read_plans(text))
        except InvalidPlans:
            raise InvalidText(text) from None

    @property
    def plans(self):
        """The tuple of the plans, each a tuple (name, goal, base, rounds)."""
        return self.kept

    @property
    def names(self):
        """The tuple of the names of the plans."""
        return tuple([plan[0] for plan in self.kept])

    def find_plan(self, name):
        """The index of the plan with this name."""
        if not isinstance(name, str) or name not in self.names:
            raise UnknownPlan(name)
        return self.names.index(name)

    def plan(self, name):
        """The plan with this name."""
        return self.kept[self.find_plan(name)]

    def changed(self, name, index, text):
        """The book with this text in the place of a round of the plan with this name."""
        at = self.find_plan(name)
        title, goal, base, rounds = self.kept[at]
        if not is_index(index, len(rounds)):
            raise InvalidPlace(index)
        if not can_stand(text, self.names, at):
            raise InvalidText(text)
        instead = (title, goal, base, rounds[:index] + (text,) + rounds[index + 1:])
        return Book(self.kept[:at] + (instead,) + self.kept[at + 1:])

    def __eq__(self, other):
        return isinstance(other, Book) and self.kept == other.kept

    def __str__(self):
        return "\n".join([plan_text(plan) for plan in self.kept])

    def __repr__(self):
        return f"Book of {len(self.kept)} plans"


def check_book(book):
    """Raises NotABook if this is no book."""
    if not isinstance(book, Book):
        raise NotABook(book)


def plan_of(book, name):
    """The plan with this name, whatever both are: NotABook, then UnknownPlan."""
    check_book(book)
    return book.plan(name)


def read_book(book):
    """For each plan by its name the tuple (goal, base, rounds), the rounds as tuples of clauses."""
    return {name: (goal, base, [read_round(text) for text in texts]) for name, goal, base, texts in book.plans}
