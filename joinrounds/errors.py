"""The errors of this package, each under one of three base classes."""


class NotRight(ValueError):
    """An argument is not of the form that is asked for."""


class InvalidText(NotRight):
    """What was given is no text that can be read or can stand there."""

    def __init__(self, given):
        self.given = given


class InvalidCount(NotRight):
    """What was given is no number of places that is allowed."""

    def __init__(self, given):
        self.given = given


class InvalidPlace(NotRight):
    """What was given is no index of what is there."""

    def __init__(self, given):
        self.given = given


class InvalidClaim(NotRight):
    """What was given is no claim for a desk."""

    def __init__(self, given):
        self.given = given


class NotABook(NotRight):
    """What was given is no book."""

    def __init__(self, given):
        self.given = given


class InvalidPlans(NotRight):
    """The plan with this index cannot stand there; None: there are no plans at all."""

    def __init__(self, index):
        self.index = index


class InvalidPieces(NotRight):
    """The piece with this index cannot stand there; None: there are no pieces at all."""

    def __init__(self, index):
        self.index = index


class NotThere(LookupError):
    """Something that is asked for is not there."""


class UnknownPlan(NotThere):
    """What was given is no name of a plan of the book."""

    def __init__(self, given):
        self.given = given


class CannotBe(ArithmeticError):
    """Something that is asked for cannot be done."""


class TooLong(CannotBe):
    """Leading a row would pass this limit."""

    def __init__(self, most):
        self.most = most


class IsOver(CannotBe):
    """All rounds of the row have been done."""


class NothingToUndo(CannotBe):
    """The desk has no change that can be taken back."""


class Broken(CannotBe):
    """The claim with this index would not hold, as what is shown tells."""

    def __init__(self, index, shown):
        self.index = index
        self.shown = shown
