"""What several tests of books need: samples of plans, rounds, and things that are neither."""

import itertools
from unittest import mock

CLASSES = ("0 of 1", "0 of 2", "1 of 2", "0 of 3", "1 of 3", "2 of 3")
GOALS = ("all", "before", "last 1", "last 2", "last 3", "last 4")

UP = ("up", "all", 1, ("join 1 of 2 left 1", "call up on 1 of 2", "join 0 of 2 left 1"))
THREE = ("three", "last 3", 2, ("join 0 of 1 left 1", "join 0 of 1 left 1"))
UP_TEXT = "plan up all base 1\njoin 1 of 2 left 1\ncall up on 1 of 2\njoin 0 of 2 left 1"
THREE_TEXT = "plan three last 3 base 2\njoin 0 of 1 left 1\njoin 0 of 1 left 1"
BOTH_TEXT = UP_TEXT + "\n" + THREE_TEXT
FOUR_TEXT = "plan four last 4 base 1\njoin 0 of 1 left 1\njoin 0 of 1 left 2"

# Books whose first plan is sound and uses all others.
SOUND_TEXTS = (
    UP_TEXT,
    FOUR_TEXT,
    "plan two last 2 base 1\njoin 0 of 1 left 1",
    "plan one last 1 base 1\ncall one on 1 of 2; call one on 0 of 2\ncall one on 1 of 3",
    "plan odd all base 3\njoin 0 of 1 left 1\ncall odd on 0 of 2; call odd on 1 of 2",
    "plan even all base 1\njoin 0 of 2 left 1\ncall even on 0 of 2\njoin 1 of 2 left 1",
    "plan four last 4 base 3\njoin 0 of 1 left 1\njoin 1 of 2 left 2\njoin 0 of 2 left 2",
    "plan third all base 2\njoin 1 of 3 left 1; join 2 of 3 left 1\njoin 2 of 3 left 2\n"
    "call third on 2 of 3\njoin 0 of 3 left 1; join 1 of 3 left 2",
    "plan ahead before base 1\ntake 0 of 1 left 1\ncall up on 0 of 1\n" + UP_TEXT,
    "plan ahead before base 4\njoin 0 of 2 right 1; take 1 of 2 left 1\ncall ahead on 0 of 2\njoin 1 of 2 left 1",
    "plan p all base 1\ncall q on 0 of 1\nplan q all base 4\ncall r on 0 of 1\nplan r all base 2\ncall up on 0 of 1\n"
    + UP_TEXT,
    "plan a all base 1\njoin 1 of 2 left 1\ncall b on 1 of 2\njoin 0 of 2 left 1\n"
    "plan b all base 2\njoin 1 of 2 left 1\ncall a on 1 of 2\njoin 0 of 2 left 1",
)


def late_text(kind, name="late", goal="all", end=""):
    """A book whose first plan goes wrong late: it joins at most twelve pieces at the places of a class by three."""
    first, second, third = [f"{(kind + far) % 3} of 3" for far in (0, 1, 2)]
    return (f"plan {name} {goal} base 1\njoin {third} left 1; join {first} left 1\njoin {first} left 2\n"
            f"call four on {first}\njoin {second} left 1; join {third} left 2{end}\n{FOUR_TEXT}")


# Books with what is to be told of their first plans.
WRONG_TEXTS = (
    (THREE_TEXT, ("three", 3, 1)),
    ("plan two all base 1\njoin 0 of 1 left 1", ("two", 3, 2)),
    (late_text(0), ("late", 13, 12)),
    (late_text(1), ("late", 14, 13)),
    (late_text(2), ("late", 15, 14)),
    (late_text(2, "later", "before", "\ntake 0 of 1 left 1"), ("later", 16, 15)),
    (FOUR_TEXT.replace("last 4", "all"), ("four", 5, 4)),
    ("plan clear all base 4\nclear 0 of 1", ("clear", 5, 0)),
    ("plan swap last 1 base 2" + "\ntake 0 of 2 right 1; take 1 of 2 left 1" * 2, ("swap", 3, 2)),
    ("plan far last 4 base 1\njoin 0 of 1 left 1\njoin 0 of 1 left 2\njoin 2 of 3 right 4", ("far", 7, 2)),
)

GOOD_NAMES = ("a", "z", "a1", "z9", "abcdefgh", "a2345678", "q0", "join", "take", "clear", "call",
              "on", "of", "plan", "all", "before", "last", "base", "left", "right")
BAD_NAMES = ("", "abcdefghi", "A", "aB", "upP", "1", "1a", "0", " ", "a b", " a", "a ", "a\n", "\na",
             "a_b", "_a", "a-b", "a.b", "a;", "{a", "`", "a`", "a/", "a:", "@a")
NO_STRINGS = (None, True, False, 0, 1, -1, 10 ** 39, (), ("up",), [], ["up"], {}, {"up": 1}, set(),
              b"up", object(), mock.ANY, str, len, range(2), 2j, (("up",),), ((((((((("up",),),),),),),),),))
NO_INTEGERS = (None, True, False, "0", "1", "", b"1", (), (0,), [], [0], {}, {0: 0}, set(), object(), mock.ANY,
               int, len, range(1), 0j)

BAD_CLAUSES = (
    "", " ", "join", "call", "clear", "take", "hop 0 of 1 left 1", "Join 0 of 1 left 1",
    "JOIN 0 of 1 left 1", "join 0 of 1", "join 0 of 1 left", "join 0 of 1 1", "join 0 of 1 left 0",
    "join 0 of 1 left 5", "join 0 of 1 left 01", "join 0 of 1 left +1", "join 0 of 1 left -1",
    "join 0 of 1 left 1 1", "join 0 of 1 left 1 left 1", "join 0 of 1 left one",
    "join 0 of 1 Left 1", "join 0 of 1 up 1", "join 0 of 0 left 1", "join 1 of 1 left 1",
    "join 2 of 2 left 1", "join 3 of 3 left 1", "join 0 of 4 left 1", "join 3 of 4 left 1",
    "join -1 of 2 left 1", "join 00 of 1 left 1", "join 0 of 01 left 1", "join 0 of +1 left 1",
    "join  of 1 left 1", "join 0 of  left 1", "join 0 of 1 left ", "join 0 of 10 left 1",
    "join 0 of 1 left 12", "join 01 of 2 left 1", "join 0 on 1 left 1", "join 0 Of 1 left 1",
    "join  0 of 1 left 1", "join 0  of 1 left 1", "join 0 of  1 left 1", "join 0 of 1  left 1",
    "join 0 of 1 left  1", " join 0 of 1 left 1", "join 0 of 1 left 1 ", "join0 of 1 left 1",
    "join 0of 1 left 1", "join 0 of1 left 1", "join 0 of 1left 1", "join 0 of 1 left1",
    "join\t0 of 1 left 1", "join 0 of 1 left 1\n", "\njoin 0 of 1 left 1", "join 0 of 1\nleft 1",
    "join 0 of 1 left 1.", "join 0 of 1 left 1;", "join 0 of 1 right 0", "join 0 of 1 right 5",
    "take 0 of 1", "take 0 of 1 left", "take 0 of 1 left 0", "take 0 of 1 right 5",
    "take 1 of 1 left 1", "take 0 of 4 left 1", "take 0 of 1 left 1 ", "Take 0 of 1 left 1",
    "clear 0 of 1 left 1", "clear 0 of 1 ", "clear  0 of 1", " clear 0 of 1", "clear 0 of",
    "clear 1 of 1", "clear 2 of 2", "clear 3 of 3", "clear 0 of 4", "clear 0 of 0", "clear 0",
    "clear up on 1 of 2", "Clear 0 of 1", "clear 0 of 1 1", "clear 0 off 1",
    "call up on 1 of 1", "call up on 2 of 2", "call up on 3 of 3", "call up on 0 of 4",
    "call up on 0 of 0", "call up on 1 of", "call up on 1 of 2 left 1", "call up 1 of 2",
    "call on 1 of 2", "call up of 1 of 2", "call up On 1 of 2", "call Up on 1 of 2",
    "call  on 1 of 2", "call up  on 1 of 2", "call up on  1 of 2", "call up on 1 of 2 ",
    " call up on 1 of 2", "call up up on 1 of 2", "call 1up on 1 of 2", "call abcdefghi on 1 of 2",
    "Call up on 1 of 2", "call up on 1 of 2\n", "call u_p on 1 of 2", "call up on 01 of 2",
)


def places_of(kind, most=36):
    """The places of a class, for telling from the document's words what classes share."""
    remainder, divisor = int(kind[0]), int(kind[-1])
    return {place for place in range(most) if place % divisor == remainder}


def plain_clauses(kind):
    """All clauses without calls on this class."""
    ways = [f"{side} {far}" for side in ("left", "right") for far in (1, 2, 3, 4)]
    for deed in ("join", "take"):
        yield from (f"{deed} {kind} {way}" for way in ways)
    yield f"clear {kind}"


def groups_of_classes(many):
    """All rows of so many classes, each with whether no place is in two of them."""
    for kinds in itertools.product(CLASSES, repeat=many):
        pairs = itertools.combinations([places_of(kind) for kind in kinds], 2)
        yield kinds, all(not one & other for one, other in pairs)


def plan(name="up", goal="all", base=1, rounds=("join 0 of 1 left 1",)):
    """The tuple of a plan, right where nothing else is told."""
    return (name, goal, base, rounds)
