"""Rows of texts that plans put together round by round."""

from joinrounds.books import plan_of, read_book
from joinrounds.errors import InvalidPieces, IsOver, TooLong
from joinrounds.forms import goal_span, is_piece
from joinrounds.limits import MOST_PIECES, MOST_SIGNS


def check_pieces(pieces):
    """Raises InvalidPieces if these are not the pieces of a row of texts."""
    if not isinstance(pieces, tuple) or len(pieces) == 0:
        raise InvalidPieces(None)
    for at, piece in enumerate(pieces):
        if at == MOST_PIECES or not is_piece(piece):
            raise InvalidPieces(at)


def goal_texts(goal, words):
    """What the goal says for each place of a row whose pieces are these words."""
    spans = [goal_span(goal, place) for place in range(len(words))]
    return ["".join(words[start:end]) for start, end in spans]


def next_text(words, place, clause):
    """What a clause, other than a call, puts into a place of its class."""
    deed, remainder, divisor, far = clause
    if deed == "clear":
        return ""
    source = place + far
    # Where there is no such place a take gets the nought, which in a join changes nothing.
    text = words[source] if 0 <= source < len(words) else ""
    if deed == "take":
        return text
    return text + words[place] if far < 0 else words[place] + text


def check_lengths(words):
    """Raises TooLong if one of these words has too many letters."""
    if max([len(word) for word in words]) > MOST_SIGNS:
        raise TooLong(MOST_SIGNS)


def next_texts(plans, clauses, words, left):
    """The pair of what the places hold behind a round, and how many more rows may be called then.

    So many as `left` says may be called at first.
    """
    after = list(words)
    for clause in clauses:
        deed, remainder, divisor, more = clause
        part = words[remainder::divisor]
        if deed != "call":
            part = [next_text(words, place, clause) for place in range(remainder, len(words), divisor)]
        elif len(part) > 0:
            part, left = led_texts(plans, more, part, left)
        after[remainder::divisor] = part
    check_lengths(after)
    return after, left


def led_texts(plans, name, words, left):
    """The pair of what the places of a called row hold at its end, and how many more rows may
    be called then; so many as `left` says, this one included, may be called at first."""
    if left == 0:
        raise TooLong(MOST_SIGNS)
    left -= 1
    goal, base, told = plans[name]
    if len(words) <= base:
        # The round that calls this row looks at the lengths.
        return goal_texts(goal, words), left
    for clauses in told:
        words, left = next_texts(plans, clauses, words, left)
    return words, left


class Row:
    """A row of texts, and the plan that is led on it."""

    def __init__(self, book, name, pieces):
        plan = plan_of(book, name)
        check_pieces(pieces)
        self.source = book
        self.called = name
        self.pieces = pieces
        self.held = pieces
        self.behind = 0
        self.told = tuple(goal_texts(plan[1], pieces))
        self.whole = 1 if len(pieces) <= plan[2] else len(plan[3])

    @property
    def book(self):
        """The book of the plan."""
        return self.source

    @property
    def name(self):
        """The name of the plan."""
        return self.called

    @property
    def words(self):
        """The tuple of what the places hold."""
        return self.held

    @property
    def done(self):
        """How many rounds have been done."""
        return self.behind

    @property
    def is_over(self):
        """Whether all rounds have been done."""
        return self.behind == self.whole

    @property
    def due(self):
        """The tuple of what the goal says for the pieces of the beginning."""
        return self.told

    def after(self):
        """The row behind the next round."""
        if self.is_over:
            raise IsOver()
        plans = read_book(self.source)
        goal, base, told = plans[self.called]
        words = self.told
        if len(words) > base:
            words, left = next_texts(plans, told[self.behind], list(self.held), MOST_SIGNS)
        row = Row(self.source, self.called, self.pieces)
        row.held = tuple(words)
        row.behind = self.behind + 1
        return row

    def last(self):
        """The row behind all rounds."""
        row = self
        while not row.is_over:
            row = row.after()
        return row

    def __eq__(self, other):
        return (isinstance(other, Row) and self.source == other.source and self.called == other.called
                and self.held == other.held and self.behind == other.behind and self.told == other.told)

    def __repr__(self):
        return f"Row of {len(self.held)} places behind {self.behind} rounds"


def least_wrong(row):
    """The least place that at the end of a row does not hold what is due, None if there is none."""
    for place, word in enumerate(row.last().words):
        if word != row.due[place]:
            return place
    return None
