"""Levels, hazards, counts and rows once more, as the document's words tell them, by other means than the package.

Words are tuples of the numbers of the pieces that were joined, None for what is spoilt; or texts.
"""

import random
import re

from joinrounds.books import Book
from tests.samples import CLASSES, GOALS, groups_of_classes, plain_clauses

CLAUSE = re.compile(r"(join|take|clear|call)(?: (\S+) on)? (\d) of (\d)(?: (left|right) (\d))?")
GROUPS = [kinds for many in (1, 2, 3) for kinds, apart in groups_of_classes(many) if apart]


def joined(words):
    """The join of these words, in their order."""
    if None in words:
        return None
    pieces = tuple(piece for word in words for piece in word)
    one_by_one = all(piece + 1 == other for piece, other in zip(pieces, pieces[1:]))
    return pieces if one_by_one else None


def told(goal, words, join=joined):
    """What a goal says for a row of these pieces."""
    if goal == "all":
        return [join(words[:place + 1]) for place in range(len(words))]
    if goal == "before":
        return [join(words[:place]) for place in range(len(words))]
    many = int(goal.split(" ")[1])
    return [join(words[:place + 1][-many:]) for place in range(len(words))]


def model_round(goals, words, text, join=joined):
    """The words behind a round; the goals are those of the plans by their names."""
    after = dict(enumerate(words))
    before = dict(after)
    for part in text.split("; "):
        deed, name, rest, many, side, far = CLAUSE.fullmatch(part).groups()
        places = [place for place in before if place % int(many) == int(rest)]
        if deed == "call":
            after.update(zip(places, told(goals[name], [before[place] for place in places], join)))
            continue
        for place in places:
            other = place - int(far or 0) if side == "left" else place + int(far or 0)
            if deed == "clear":
                after[place] = join([])
            elif deed == "take":
                after[place] = before.get(other, join([]))
            elif other in before:
                pair = sorted((place, other))
                after[place] = join([before[one] for one in pair])
    return list(after.values())


def model_led_round(book, words, text, join=joined, log=None):
    """The words behind a round, the plans that it calls being led."""
    after = list(words)
    for part in text.split("; "):
        deed, called, rest, many, side, far = CLAUSE.fullmatch(part).groups()
        places = slice(int(rest), None, int(many))
        if deed != "call":
            after[places] = model_round({}, words, part, join)[places]
        elif words[places]:
            if log is not None:
                log.append(called)
            after[places] = model_led(book, called, words[places], join, log)
    if log is not None:
        log.append(after)
    return after


def model_led(book, name, words, join=joined, log=None):
    """The words at the end of leading a plan on this row, the plans that it calls led as well.

    The log is a list that gets the names of the plans that are called, and the words behind each round.
    """
    goal, base, rounds = book.plan(name)[1:]
    if len(words) <= base:
        words = told(goal, words, join)
        if log is not None:
            log.append(words)
        return words
    for text in rounds:
        words = model_led_round(book, words, text, join, log)
    return words


class Over(Exception):
    """A model row got too long, or called too many rows."""


class Log(list):
    """What a model's round logs, as far as the round goes on."""

    called = 0

    def append(self, entry):
        super().append(entry)
        self.called += isinstance(entry, str)
        if self.called > 1000 or not isinstance(entry, str) and max(map(len, entry)) > 1000:
            raise Over()


def model_words(book, name, pieces):
    """What the places hold behind each round in turn; None for a round that gets too long, the last one then."""
    goal, base, rounds = book.plan(name)[1:]
    if len(pieces) <= base:
        return [tuple(told(goal, pieces, "".join))]
    words, held = list(pieces), []
    for text in rounds:
        try:
            words = model_led_round(book, words, text, "".join, Log())
        except Over:
            return held + [None]
        held.append(tuple(words))
    return held


def as_run(word):
    """A word as the document writes it."""
    if word is None:
        return None
    return (word[0], word[-1] + 1) if word else (0, 0)


def model_level(book, name, size):
    """What `level` has to return; also for more than 100 places."""
    goals = {one[0]: one[1] for one in book.plans}
    words = [(place,) for place in range(size)]
    held = [words]
    for text in book.plan(name)[3]:
        held.append(model_round(goals, held[-1], text))
    return tuple(tuple(as_run(word) for word in words) for words in held)


def model_wrong(book, name, size):
    """The least place that is wrong at this length, None if the plan holds there."""
    goal, base = book.plan(name)[1:3]
    if size <= base:
        return None
    right = [as_run(word) for word in told(goal, [(place,) for place in range(size)])]
    last = model_level(book, name, size)[-1]
    return next((place for place in range(size) if last[place] != right[place]), None)


def model_hazards(text, size):
    """The ascending list of the hazards of a round at this length."""
    done, read = set(), set()
    for part in text.split("; "):
        deed, name, rest, many, side, far = CLAUSE.fullmatch(part).groups()
        for place in range(int(rest), size, int(many)):
            other = place - int(far or 0) if side == "left" else place + int(far or 0)
            there = 0 <= other < size
            if deed in ("take", "clear") or deed == "join" and there:
                done.add(place)
            if deed in ("take", "join") and there:
                read.add(other)
    return sorted(done & read)


def model_counts(book, name, size, known=None):
    """The pair of the joins and rounds of leading a plan, counted place by place.

    Known is a dict of the pairs that were counted before, by names and lengths.
    """
    known = {} if known is None else known
    if (name, size) not in known:
        goal, base, rounds = book.plan(name)[1:]
        if size <= base:
            takes = [max(0, len(word) - 1) for word in told(goal, [(place,) for place in range(size)])]
            known[name, size] = sum(takes), max(takes)
        else:
            pairs = [model_round_counts(book, size, text, known) for text in rounds]
            known[name, size] = tuple(map(sum, zip(*pairs)))
    return known[name, size]


def model_round_counts(book, size, text, known):
    """The pair of the joins and rounds of one round, those of the plans that it calls included."""
    total = longest = 0
    for part in text.split("; "):
        deed, called, rest, many, side, far = CLAUSE.fullmatch(part).groups()
        places = [place for place in range(size) if place % int(many) == int(rest)]
        taken, lasted = 0, 1
        if deed == "call":
            taken, lasted = model_counts(book, called, len(places), known) if places else (0, 0)
        elif deed == "join" and side == "left":
            taken = sum(place >= int(far) for place in places)
        elif deed == "join":
            taken = sum(place + int(far) < size for place in places)
        total, longest = total + taken, max(longest, lasted)
    return total, longest


def model_certificates(claim):
    """All certificates for a claim for the checker, which has the form of one."""
    word, text, name, *rest = claim
    book = Book.read(text)
    goal, base, rounds = book.plan(name)[1:]
    if word == "differs":
        words, due = model_words(book, name, rest[0])[-1], told(goal, rest[0], "".join)
        return [] if words is None else [place for place in range(len(due)) if words[place] != due[place]][:1]
    size = rest[0]
    if word == "hazard":
        return [index for index, one in enumerate(rounds) if rest[1] in model_hazards(one, size)]
    held = model_level(book, name, size)
    if word == "holds":
        return [held] if model_wrong(book, name, size) is None else []
    right = as_run(told(goal, [(place,) for place in range(size)])[rest[1]])
    return [held] if size > base and held[-1][rest[1]] != right else []


def some_round(chance, names, calls):
    """A round; it has calls of these names as often as `calls` of ten times."""
    kinds = chance.choice(GROUPS)
    if names and chance.randrange(10) < calls:
        return "; ".join(f"call {chance.choice(names)} on {kind}" for kind in kinds)
    return "; ".join(chance.choice(list(plain_clauses(kind))) for kind in kinds)


def some_book(chance, calls=5):
    """A book of one to four plans, whose goals, bases and rounds are as chance has it."""
    names = ["a", "b", "c", "d"][:chance.randrange(1, 5)]
    plans = []
    for at, name in enumerate(names):
        rounds, many = [], chance.randrange(1, 6)
        while len(rounds) < many:
            text = some_round(chance, names, calls)
            # On all places only plans further down can be called.
            if not any(f"call {one} on 0 of 1" in text for one in names[:at + 1]):
                rounds.append(text)
        plans.append((name, chance.choice(GOALS), chance.randrange(1, 5), tuple(rounds)))
    return Book(tuple(plans))


def some_books(seed, many, calls=5):
    """So many books, the same ones for the same seed."""
    chance = random.Random(seed)
    return [some_book(chance, calls) for at in range(many)]


def growing_books(seed, many):
    """Books with many calls on many places, and, every other one, with words that get long."""
    chance = random.Random(seed)
    takes = ("take 0 of 1 left 1", "clear 1 of 3; take 0 of 3 right 4")
    joins = ("join 0 of 1 left 1", "join 0 of 2 right 1; join 1 of 2 left 1", "join 1 of 3 left 2; take 0 of 3 left 4")
    for at in range(many):
        plans = []
        for index, name in enumerate("abcd"):
            calls = [f"call {other} on 0 of 1" for other in "abcd"[index + 1:]]
            calls += [f"call {other} on 0 of 2; call {name} on 1 of 2" for other in "abcd"]
            kinds = [calls] * 9 + [takes] if at % 2 else [calls, joins]
            rounds = [chance.choice(chance.choice(kinds)) for done in range(5 if at % 2 else chance.randrange(2, 6))]
            plans.append((name, chance.choice(GOALS), chance.randrange(1, 3), tuple(rounds)))
        yield Book(tuple(plans))


def short_books():
    """Books whose first plan has one round of one clause, all of these; calls are of another plan."""
    for goal in GOALS:
        for kind in CLASSES:
            for text in plain_clauses(kind):
                yield Book((("top", goal, 1, (text,)),))
            for other in GOALS:
                yield Book((("top", goal, 1, (f"call other on {kind}",)), ("other", other, 4, ("clear 0 of 1",))))
