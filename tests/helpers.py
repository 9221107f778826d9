"""What several tests need: values of other kinds, a check of errors, and slow answers to compare with."""

import copy
import itertools
import random
from unittest import mock

from whoselines import errors
from whoselines.bands import Band
from whoselines.machines import Machine

FIELDLESS = (
    "NoSize", "NoEnds", "NoState", "NoSign", "NoLength", "NoNumber", "NoBarred", "NoShown", "NoName",
    "NoGiving", "TooLong", "NothingToUndo", "NoOrder", "NoBand",
)
FIELDS = {
    "NoArrow": "index", "NoRow": "index", "NoWriter": "index", "NoEntry": "index", "NoIndex": "index",
    "NoText": "row",
}
ALL_ERRORS = FIELDLESS + tuple(FIELDS)


def others():
    """New values of many kinds; none is an integer, a word, a tuple or a list."""
    return [
        None, True, False, 1.0, 0.0, b"", b"note", b"a", {}, {0: 1}, {"note": "a"}, {"a": ["b", {}]}, {0}, {"a"},
        frozenset(["a"]), object(), int, str, len, range(2), complex(1, 0), mock.ANY,
    ]


def no_tuples():
    return others() + [
        0, 1, -1, 10 ** 59, "", "a", "note", "(0,)", [], [0], ["a"], [()], [(0, "a", 0)], [("a", "b")], [[["a"]]],
    ]


def no_lists():
    return others() + [0, 1, -1, 10 ** 59, "", "a", "note", (), ("a",), (["a"],), ((), ())]


def no_integers():
    return others() + [
        "", "0", "1", "note", (), (1,), (1, 2), [], [1], [[1], {"a": (1,)}], "1" * 60,
    ]


def no_words():
    """Values of any kind that are no words."""
    return others() + [
        0, 1, -3, 10 ** 59, "", " ", "A", "Note", "notE", "a b", " a", "a ", "a\n", "\na", "a\tb", "a1", "1", "a-b",
        "a_b", "a.", "~", "ninechars", "a" * 9, "a" * 6000, (), ("a",), [], ["a"], [["a"]], (("a",), {"a": []}),
    ]


def check_error(case, name, call, *args, **named):
    """Check that a call raises just this error; the fields are what is named behind field."""
    field = named.pop("field", None)
    try:
        answer = call(*args, **named)
    except errors.LineError as error:
        case.assertIs(type(error), getattr(errors, name), (args, named))
        check_kinds(case, name, error)
        if name in FIELDS:
            told = getattr(error, FIELDS[name])
            case.assertEqual(told, field)
            case.assertIs(type(told), type(field))
    else:
        case.fail(f"{name} expected of {args} {named}, got {answer!r}")


def check_kinds(case, name, error):
    case.assertIsInstance(error, errors.LineError)
    case.assertIsInstance(error, ValueError)
    for other in ALL_ERRORS:
        if other != name:
            case.assertNotIsInstance(error, getattr(errors, other))


def every_row(signs, length):
    """All rows over some signs of this length, in the order of lists of strings."""
    return [list(row) for row in itertools.product(sorted(signs), repeat=length)]


def writes_slowly(machine, row):
    """Whether an arrow for each sign leads on from 0 to an end, looked up arrow by arrow."""
    state = 0
    for sign in row:
        targets = [arrow[2] for arrow in machine.arrows() if arrow[:2] == (state, sign)]
        if not targets:
            return False
        state = targets[0]
    return state in machine.ends()


def some_machines(many, signs=("a", "aa", "b"), sizes=(1, 2, 3)):
    """As many machines, alike in each run, some without ends or arrows."""
    chance = random.Random(f"{many} {signs} {sizes}")
    machines = []
    for _ in range(many):
        size = chance.choice(sizes)
        thick = chance.choice((2, 5, 8, 10))
        arrows = [
            (state, sign, chance.randrange(size))
            for state in range(size) for sign in signs if chance.randrange(10) < thick
        ]
        chance.shuffle(arrows)
        ends = [state for state in range(size) if chance.randrange(10) < 4]
        machines.append(Machine(size, tuple(arrows), tuple(ends)))
    return machines


def some_bands(many, sizes=(1, 2, 3), signs=("a", "b"), writers=(1, 2, 2, 3), onward=False, kind=""):
    """As many bands, alike in each run, most of them with logs. Onward ones come to no state twice."""
    chance = random.Random(f"{many} {sizes} {signs} {writers} {onward} {kind}")
    bands = []
    while len(bands) < many:
        names = chance.sample(("ann", "bob", "cid", "dan"), chance.choice(writers))
        barred = chance.choice((0, 0, 2, 4))
        shown = chance.choice((0, 0, 3))
        bands.append(Band(
            tuple((name, one_machine(chance, chance.choice(sizes), signs, onward)) for name in names),
            tuple((one, two) for one in names for two in names if chance.randrange(10) < barred),
            tuple(sign for sign in signs if chance.randrange(10) < shown),
        ))
    return bands


def one_machine(chance, size, signs, onward):
    thick = chance.choice((4, 6, 8, 10))
    arrows = []
    for state in range(size):
        targets = range(state + 1, size) if onward else range(size)
        arrows += [
            (state, sign, chance.choice(targets)) for sign in signs if targets and chance.randrange(10) < thick
        ]
    return Machine(size, tuple(arrows), tuple(state for state in range(size) if chance.randrange(10) < 7))


def other_band(chance, band):
    """A band that is like another one in most."""
    writers = []
    for name in band.names():
        machine = band.machine(name)
        arrows, ends = list(machine.arrows()), set(machine.ends())
        if arrows and chance.randrange(10) < 3:
            at = chance.randrange(len(arrows))
            arrows[at] = arrows[at][:2] + (chance.randrange(machine.size()),)
        if chance.randrange(10) < 2:
            ends ^= {chance.randrange(machine.size())}
        writers.append((name, Machine(machine.size(), tuple(arrows), tuple(ends))))
    if chance.randrange(10) < 3:
        writers.reverse()
    return Band(tuple(writers), band.barred()[chance.randrange(2):], band.shown())


def wrong_entries():
    """Values that are no entries of a band of ann and bob that shows just the sign seen."""
    wrong = no_tuples() + [
        (), ("a",), ("a", None, None), (("a", None),), (None, "a"), (None, None), ["a", None], [("a", None)],
        ("a", "ann"), ("a", ""), ("a", False), ("a", 0), ("a", ()), ("a", "cid"), ("a", mock.ANY), mock.ANY,
        ("seen", None), ("seen", "cid"), ("seen", ""), ("seen", "seen"), ("seen", True), ("seen", ("ann",)),
        ("seen", ["ann"]), ("seen", {"ann": "ann"}), ("seen", mock.ANY), ("seen", "ann", "bob"), (mock.ANY, None),
    ]
    return wrong + [(value, None) for value in no_words()] + [(value, "ann") for value in no_words()]


def check_new(case, call, *args, **named):
    """Check that answers are told again as before when what was told is changed, also within."""
    told = call(*args, **named)
    kept = copy.deepcopy(told)
    spoil(told)
    again = call(*args, **named)
    case.assertEqual(again, kept)
    case.assertIs(type(again), type(kept))


def spoil(told):
    """Change all lists within a value."""
    if isinstance(told, (list, tuple)):
        for item in told:
            spoil(item)
    if isinstance(told, list):
        told.reverse()
        told.append("more")
        told[0] = None


def check_kept(case, call, *args):
    """Check that a call changes none of its arguments; return the answer."""
    before = copy.deepcopy(args)
    answer = call(*args)
    case.assertEqual(args, before)
    return answer
