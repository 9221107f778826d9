"""What several tests need: values of other kinds, a check of errors, and slow answers to compare with."""

import itertools
import random

from whoselines import errors
from whoselines.machines import Machine

FIELDLESS = (
    "NoSize", "NoEnds", "NoState", "NoSign", "NoLength", "NoNumber", "NoBarred", "NoShown", "NoName",
    "NoGiving", "TooLong", "NothingToUndo", "NoOrder", "NoBand",
)
FIELDS = {
    "NoArrow": "index", "NoRow": "index", "NoWriter": "index", "NoEntry": "index", "NoIndex": "index",
    "NoText": "row",
}
ALL_ERRORS = FIELDLESS + tuple(FIELDS)


def others():
    """New values of many kinds; none is an integer, a word, a tuple or a list."""
    return [
        None, True, False, 1.0, 0.0, b"", b"note", b"a", {}, {0: 1}, {"note": "a"}, {"a": ["b", {}]}, {0}, {"a"},
        frozenset(["a"]), object(), int, str, len, range(2), complex(1, 0),
    ]


def no_tuples():
    return others() + [
        0, 1, -1, 10 ** 59, "", "a", "note", "(0,)", [], [0], ["a"], [()], [(0, "a", 0)], [("a", "b")], [[["a"]]],
    ]


def no_lists():
    return others() + [0, 1, -1, 10 ** 59, "", "a", "note", (), ("a",), (["a"],), ((), ())]


def no_integers():
    return others() + [
        "", "0", "1", "note", (), (1,), (1, 2), [], [1], [[1], {"a": (1,)}], "1" * 60,
    ]


def no_words():
    """Values of any kind that are no words."""
    return others() + [
        0, 1, -3, 10 ** 59, "", " ", "A", "Note", "notE", "a b", " a", "a ", "a\n", "\na", "a\tb", "a1", "1", "a-b",
        "a_b", "a.", "~", "ninechars", "a" * 9, "a" * 6000, (), ("a",), [], ["a"], [["a"]], (("a",), {"a": []}),
    ]


def check_error(case, name, call, *args, **named):
    """Check that a call raises just this error; the fields are what is named behind field."""
    field = named.pop("field", None)
    try:
        answer = call(*args, **named)
    except errors.LineError as error:
        case.assertIs(type(error), getattr(errors, name), (args, named))
        check_kinds(case, name, error)
        if name in FIELDS:
            told = getattr(error, FIELDS[name])
            case.assertEqual(told, field)
            case.assertIs(type(told), type(field))
    else:
        case.fail(f"{name} expected of {args} {named}, got {answer!r}")


def check_kinds(case, name, error):
    case.assertIsInstance(error, errors.LineError)
    case.assertIsInstance(error, ValueError)
    for other in ALL_ERRORS:
        if other != name:
            case.assertNotIsInstance(error, getattr(errors, other))


def every_row(signs, length):
    """All rows over some signs of this length, in the order of lists of strings."""
    return [list(row) for row in itertools.product(sorted(signs), repeat=length)]


def writes_slowly(machine, row):
    """Whether an arrow for each sign leads on from 0 to an end, looked up arrow by arrow."""
    state = 0
    for sign in row:
        targets = [arrow[2] for arrow in machine.arrows() if arrow[:2] == (state, sign)]
        if not targets:
            return False
        state = targets[0]
    return state in machine.ends()


def some_machines(many, signs=("a", "aa", "b"), sizes=(1, 2, 3)):
    """As many machines, alike in each run, some without ends or arrows."""
    chance = random.Random(f"{many} {signs} {sizes}")
    machines = []
    for _ in range(many):
        size = chance.choice(sizes)
        thick = chance.choice((2, 5, 8, 10))
        arrows = [
            (state, sign, chance.randrange(size))
            for state in range(size) for sign in signs if chance.randrange(10) < thick
        ]
        chance.shuffle(arrows)
        ends = [state for state in range(size) if chance.randrange(10) < 4]
        machines.append(Machine(size, tuple(arrows), tuple(ends)))
    return machines
