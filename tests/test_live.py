"""A live log: promises [23] and [24]."""

import copy
import itertools
import random
import unittest

import slow
from helpers import (
    check_error, check_kept, check_new, no_integers, no_lists, no_words, some_bands, wrong_entries,
)

from whoselines import logs
from whoselines.bands import Band
from whoselines.live import Live
from whoselines.machines import Machine

PLAIN = Machine(2, ((0, "open", 1), (1, "note", 1), (1, "shut", 0)), (0,))
SHORT = Machine(2, ((0, "note", 1),), (0, 1))
BAND = Band((("ann", PLAIN), ("bob", SHORT)))
SHOWS = Band((("ann", Machine(1, ((0, "a", 0), (0, "seen", 0)), (0,))), ("bob", SHORT)), (), ("seen",))
LOOP = Machine(1, ((0, "a", 0),), (0,))
LOOPS_WRITERS = (("ann", LOOP), ("bob", LOOP))
LOOPS = Band(LOOPS_WRITERS)
# The sign b leads to no end; the sign a leads to an end only behind an even number of lines.
TRAP = Band((("ann", Machine(3, ((0, "a", 1), (1, "a", 0), (0, "b", 2)), (0,))), ("bob", LOOP)))
NO_LOG = Band((("ann", Machine(1, ((0, "a", 0),))), ("bob", LOOP)))
BANDS = some_bands(60, kind="live") + some_bands(20, writers=(3,), sizes=(1, 2), kind="live") + [
    BAND, LOOPS, TRAP, NO_LOG]
OPENED, NOTED, SHUT = ("open", None), ("note", None), ("shut", None)
LINE = ("a", None)
MOST = 5


def told_by(live):
    """All that a live log tells."""
    return (
        len(live), live.entries, live.count(), live.owners(), live.sure(), live.is_log(), live.next_signs(),
        live.band.names(),
    )


def do(live, call):
    return getattr(live, call[0])(*copy.deepcopy(call[1:]))


def replayed(band, calls):
    live = Live(band)
    for call in calls:
        do(live, call)
    return live


class Trial:
    """What a band's lines leave open, by a trial of all givings."""

    def __init__(self, band):
        self.band = band
        reached = slow.reached_from(band, slow.beginning(band))
        self.alive = {standing for standing in reached if slow.is_alive(band, standing)}
        self.known = {}

    def openings(self, lines):
        """All open givings of these lines, each with the standing to which it leads."""
        if tuple(lines) not in self.known:
            tried = itertools.product(self.band.names(), repeat=len(lines))
            found = [(names, slow.behind(self.band, lines, names)) for names in tried]
            self.known[tuple(lines)] = [one for one in found if one[1] in self.alive]
        return self.known[tuple(lines)]

    def told(self, lines, names):
        """What a live log with these lines and told names is to tell."""
        fit = [
            one for one in self.openings(lines) if all(one[0][index] == name for index, name in names.items())
        ]
        owners = [
            [name for name in self.band.names() if name in {one[0][at] for one in fit}] for at in range(len(lines))
        ]
        onward = {
            step[0][0] for one in fit for step in slow.line_steps(self.band, one[1]) if step[2] in self.alive
        }
        return (
            len(lines), list(lines), len(fit), owners, [at for at, found in enumerate(owners) if len(found) == 1],
            any(slow.at_ends(self.band, one[1]) for one in fit), sorted(onward), self.band.names(),
        )


class Written:
    """The calls that stand, in a plain list."""

    def __init__(self, trial):
        self.trial = trial
        self.calls = []

    def lines(self):
        found = []
        for call in self.calls:
            found += {"add": [call[1]], "add_all": call[1], "tell": []}[call[0]]
        return found

    def names(self):
        return {call[1]: call[2] for call in self.calls if call[0] == "tell"}

    def answer(self, call):
        """Do a call; return its answer."""
        if call[0] == "undo":
            self.calls.pop()
            return None
        self.calls.append(call)
        if call[0] == "tell":
            return self.trial.told(self.lines(), self.names())[2]
        return len(self.trial.openings(self.lines()))

    def told(self):
        return self.trial.told(self.lines(), self.names())


def some_call(chance, written):
    """A call that may be made now."""
    band, many = written.trial.band, len(written.lines())
    entries = slow.entries(band, ("a",))
    kinds = ["undo"] * 2 * bool(written.calls) + ["tell"] * 4 * bool(many) + ["add"] * 4 + ["add_all"]
    kind = chance.choice(kinds)
    if kind == "tell":
        return (kind, chance.randrange(many), chance.choice(band.names()))
    if kind == "undo" or many >= MOST:
        return ("undo",)
    if kind == "add":
        return (kind, chance.choice(entries))
    return (kind, [chance.choice(entries) for _ in range(chance.randrange(min(4, MOST - many + 1)))])


class Calls(unittest.TestCase):
    def test_trials(self):
        chance = random.Random("live")
        found = {call: set() for call in ("add", "add_all", "tell", "undo")}
        for band in BANDS:
            live, written = Live(band), Written(Trial(band))
            self.assertEqual(told_by(live), written.told())
            for _ in range(30):
                call = some_call(chance, written)
                answer = do(live, call)
                self.assertEqual(answer, written.answer(call), (call, written.calls))
                self.assertIs(type(answer), type(None) if call[0] == "undo" else int)
                self.assertEqual(told_by(live), written.told(), written.calls)
                found[call[0]].add(answer)
        self.assertGreater(min(len(found[call]) for call in ("add", "add_all", "tell")), 5)

    def test_a_new_live_log_with_the_calls_that_stand(self):
        chance = random.Random("again")
        for band in BANDS[::2]:
            live, written = Live(band), Written(Trial(band))
            for _ in range(20):
                call = some_call(chance, written)
                do(live, call)
                written.answer(call)
                self.assertEqual(told_by(live), told_by(replayed(band, written.calls)))

    def test_what_logs_tells(self):
        chance = random.Random("logs")
        counted = 0
        for band in BANDS:
            live, written = Live(band), Written(Trial(band))
            for _ in range(15):
                call = some_call(chance, written)
                do(live, call)
                written.answer(call)
                log, names = live.entries, written.names()
                rights = [logs.giving_at(band, log, number) for number in range(logs.count(band, log))]
                fit = [giving for giving in rights if all(giving[at] == name for at, name in names.items())]
                self.assertIs(live.is_log(), len(fit) > 0)
                self.assertGreaterEqual(live.count(), len(fit))
                for at, owners in enumerate(live.owners()):
                    self.assertLessEqual({giving[at] for giving in fit}, set(owners))
                counted += len(fit) > 1
        self.assertGreater(counted, 50)

    def test_one_by_one_and_all_at_once(self):
        for band in BANDS:
            for log in slow.lists(band, 2)[:6]:
                one, all_of_it = Live(band), Live(band)
                answers = [one.add(entry) for entry in log]
                self.assertEqual(all_of_it.add_all(log), answers[-1])
                self.assertEqual(told_by(one), told_by(all_of_it))

    def test_the_log_of_the_document(self):
        live = Live(BAND)
        self.assertEqual([live.add(entry) for entry in (OPENED, NOTED, NOTED, SHUT)], [1, 2, 3, 3])
        self.assertEqual(live.owners(), [["ann"], ["ann", "bob"], ["ann", "bob"], ["ann"]])
        self.assertEqual((live.count(), live.is_log(), live.sure(), live.next_signs()), (
            3, True, [0, 3], ["note", "open"]))
        self.assertEqual(live.tell(1, "ann"), 2)
        self.assertEqual(live.owners(), [["ann"], ["ann"], ["ann", "bob"], ["ann"]])
        self.assertEqual(live.tell(2, "bob"), 1)
        self.assertEqual((live.sure(), live.next_signs()), ([0, 1, 2, 3], ["open"]))
        self.assertEqual(live.tell(0, "bob"), 0)
        self.assertEqual((live.owners(), live.sure(), live.count()), ([[], [], [], []], [], 0))
        self.assertEqual((live.is_log(), live.next_signs()), (False, []))

    def test_answers_of_add_leave_told_names_aside(self):
        live = Live(LOOPS)
        live.add_all([LINE, LINE])
        self.assertEqual(live.tell(0, "ann"), 2)
        self.assertEqual(live.add(LINE), 8)
        self.assertEqual(live.add_all([LINE]), 16)
        self.assertEqual(live.add_all([]), 16)
        self.assertEqual(live.count(), 8)

    def test_a_name_told_twice(self):
        live = Live(LOOPS)
        live.add_all([LINE, LINE])
        self.assertEqual([live.tell(0, "ann"), live.tell(0, "bob"), live.tell(1, "bob")], [2, 2, 1])
        self.assertEqual(live.owners(), [["bob"], ["bob"]])
        live.undo()
        live.undo()
        self.assertEqual(live.owners(), [["ann"], ["ann", "bob"]])
        self.assertEqual(live.tell(0, "ann"), 2)
        live.undo()
        self.assertEqual(live.owners(), [["ann"], ["ann", "bob"]])
        live.undo()
        self.assertEqual(live.owners(), [["ann", "bob"], ["ann", "bob"]])

    def test_undo_down_to_the_empty_log(self):
        live = Live(BAND)
        empty = told_by(live)
        calls = [
            ("add", OPENED), ("add_all", []), ("tell", 0, "ann"), ("add_all", [NOTED, NOTED]), ("tell", 2, "bob"),
            ("tell", 1, "bob"), ("add_all", []), ("add", SHUT), ("tell", 2, "ann"), ("add", SHUT),
        ]
        told = []
        for call in calls:
            told.append(told_by(live))
            do(live, call)
        for before in reversed(told):
            self.assertIsNone(live.undo())
            self.assertEqual(told_by(live), before)
        self.assertEqual(told_by(live), empty)
        check_error(self, "NothingToUndo", live.undo)
        self.assertEqual(live.add(OPENED), 1)
        live.undo()
        check_error(self, "NothingToUndo", live.undo)
        self.assertEqual(told_by(live), empty)

    def test_an_empty_list_is_a_call(self):
        live = Live(BAND)
        self.assertEqual(live.add_all([]), 1)
        live.undo()
        check_error(self, "NothingToUndo", live.undo)
        live.add(OPENED)
        live.add_all([])
        live.undo()
        self.assertEqual(live.entries, [OPENED])
        live.undo()
        self.assertEqual(live.entries, [])

    def test_a_new_live_log(self):
        live = Live(BAND)
        self.assertEqual(told_by(live), (0, [], 1, [], [], True, ["note", "open"], ("ann", "bob")))
        self.assertEqual(told_by(Live(band=BAND)), told_by(live))
        check_error(self, "NothingToUndo", live.undo)
        trap = Live(TRAP)
        self.assertEqual((trap.next_signs(), trap.is_log(), trap.count()), (["a"], True, 1))

    def test_a_band_without_a_log(self):
        live = Live(NO_LOG)
        self.assertEqual(told_by(live), (0, [], 0, [], [], False, [], ("ann", "bob")))
        self.assertEqual([live.add(LINE), live.add_all([LINE, LINE]), live.tell(1, "bob")], [0, 0, 0])
        self.assertEqual(told_by(live), (3, [LINE] * 3, 0, [[], [], []], [], False, [], ("ann", "bob")))

    def test_lines_that_are_no_beginning(self):
        live = Live(BAND)
        self.assertEqual(live.add_all([OPENED, ("other", None)]), 0)
        self.assertEqual((live.owners(), live.next_signs(), live.is_log()), ([[], []], [], False))
        self.assertEqual([live.add(SHUT), live.tell(0, "ann")], [0, 0])
        self.assertEqual(live.entries, [OPENED, ("other", None), SHUT])
        for _ in range(3):
            live.undo()
        self.assertEqual(live.add(OPENED), 1)

    def test_lines_that_only_lead_to_no_end(self):
        live = Live(TRAP)
        self.assertEqual(live.add(("b", None)), 0)
        live.undo()
        self.assertEqual([live.add(LINE), live.add(LINE)], [2, 4])
        self.assertEqual([live.tell(0, "ann"), live.tell(1, "bob")], [2, 1])
        self.assertEqual((live.is_log(), live.next_signs()), (False, ["a"]))
        self.assertEqual((live.tell(1, "ann"), live.is_log()), (1, True))

    def test_shown_names(self):
        live = Live(SHOWS)
        self.assertEqual([live.add(("seen", "ann")), live.add(("note", None)), live.add(LINE)], [1, 1, 1])
        self.assertEqual((live.owners(), live.next_signs()), ([["ann"], ["bob"], ["ann"]], ["a", "seen"]))
        self.assertEqual(live.add(("seen", "bob")), 0)
        live.undo()
        self.assertEqual([live.tell(0, "bob"), live.tell(0, "ann")], [0, 1])

    def test_barred_pairs(self):
        band = Band(LOOPS_WRITERS, (("ann", "bob"), ("bob", "bob")))
        live = Live(band)
        self.assertEqual(live.add_all([LINE, LINE, LINE]), 2)
        self.assertEqual(live.owners(), [["ann", "bob"], ["ann"], ["ann"]])
        self.assertEqual(live.tell(1, "bob"), 0)


class Shapes(unittest.TestCase):
    def test_the_band(self):
        live = Live(BAND)
        self.assertEqual(live.band, BAND)
        live.add(OPENED)
        self.assertEqual(live.band, BAND)
        self.assertIsInstance(Live.band, property)
        self.assertIsInstance(Live.entries, property)

    def test_answers_are_new(self):
        live = Live(BAND)
        live.add_all([OPENED, NOTED, NOTED])
        live.tell(1, "bob")
        for call in (live.owners, live.sure, live.next_signs, lambda: live.entries):
            check_new(self, call)
        self.assertEqual(told_by(live), told_by(live))
        self.assertIsNot(live.entries, live.entries)

    def test_arguments_are_not_kept(self):
        log = [OPENED, NOTED, NOTED]
        live = Live(BAND)
        self.assertEqual(check_kept(self, live.add_all, log), 3)
        told = told_by(live)
        log.clear()
        self.assertEqual(told_by(live), told)
        own = live.entries
        own.append(SHUT)
        own[0] = None
        self.assertEqual(told_by(live), told)
        self.assertEqual(live.add_all(live.entries), 0)
        self.assertEqual(len(live), 6)

    def test_arguments_by_name(self):
        live = Live(band=BAND)
        self.assertEqual(live.add(entry=OPENED), 1)
        self.assertEqual(live.add_all(log=[NOTED, NOTED]), 3)
        self.assertEqual(live.tell(index=1, name="ann"), 2)
        self.assertEqual(live.tell(name="bob", index=2), 1)

    def test_two_side_by_side(self):
        one, two = Live(LOOPS), Live(LOOPS)
        one.add_all([LINE, LINE])
        one.tell(0, "ann")
        self.assertEqual(told_by(two), told_by(Live(LOOPS)))
        two.add(LINE)
        one.undo()
        self.assertEqual((one.count(), two.count(), len(one), len(two)), (4, 2, 2, 1))
        check_error(self, "NothingToUndo", Live(LOOPS).undo)

    def test_the_same_band_twice(self):
        for band in BANDS[:20]:
            self.assertEqual(told_by(Live(band)), told_by(Live(band)))


class Errors(unittest.TestCase):
    def some(self):
        """Live logs of all kinds of calls, the last one of a band that shows the sign seen."""
        empty, told, shows = Live(SHOWS), Live(SHOWS), Live(SHOWS)
        told.add_all([("note", None), ("seen", "ann"), LINE])
        told.tell(0, "bob")
        shows.add(("seen", "bob"))
        shows.add_all([])
        return [empty, told, shows]

    def check_unchanged(self, live, name, call, *args, **named):
        before = told_by(live)
        check_error(self, name, call, *args, **named)
        self.assertEqual(told_by(live), before)

    def test_no_entry(self):
        for live in self.some():
            for wrong in wrong_entries():
                self.check_unchanged(live, "NoEntry", live.add, wrong, field=len(live))
            self.check_unchanged(live, "NoEntry", live.add, entry=[LINE], field=len(live))

    def test_no_list(self):
        for live in self.some():
            for wrong in no_lists() + [LINE, (LINE,), {0: LINE}]:
                self.check_unchanged(live, "NoEntry", live.add_all, wrong, field=0)

    def test_no_list_of_entries(self):
        for live in self.some():
            for wrong in wrong_entries():
                self.check_unchanged(live, "NoEntry", live.add_all, [wrong], field=0)
                self.check_unchanged(live, "NoEntry", live.add_all, log=[LINE, LINE, wrong, LINE, wrong], field=2)

    def test_no_index(self):
        for live in self.some():
            wrong = [-1, -len(live), len(live), len(live) + 1, 10 ** 59, -10 ** 59] + no_integers()
            for index in wrong:
                for name in ("ann", "cid", None):
                    before = told_by(live)
                    with self.assertRaises(ValueError) as caught:
                        live.tell(index, name)
                    self.assertEqual(type(caught.exception).__name__, "NoIndex")
                    self.assertIs(caught.exception.index, index)
                    self.assertEqual(told_by(live), before)
        for index in (-1, 0, 10 ** 59, "", None, True):
            check_error(self, "NoIndex", Live(BAND).tell, index, "ann", field=index)

    def test_no_name(self):
        for live in self.some()[1:]:
            for name in no_words() + ["cid", "anna", "an", "bobann"]:
                for index in range(len(live)):
                    self.check_unchanged(live, "NoName", live.tell, index, name)
                    self.check_unchanged(live, "NoName", lambda: live.tell(name=name, index=index))

    def test_errors_are_no_calls(self):
        live = Live(BAND)
        live.add(OPENED)
        check_error(self, "NoEntry", live.add, None, field=1)
        check_error(self, "NoEntry", live.add_all, [None], field=0)
        check_error(self, "NoIndex", live.tell, 1, "ann", field=1)
        check_error(self, "NoName", live.tell, 0, "cid")
        live.undo()
        for _ in range(2):
            check_error(self, "NothingToUndo", live.undo)
        self.assertEqual(told_by(live), told_by(Live(BAND)))


class Long(unittest.TestCase):
    def test_many_lines(self):
        live = Live(LOOPS)
        for many in range(1, 301):
            self.assertEqual(live.add(LINE), 2 ** many)
        self.assertEqual((live.count(), len(live)), (2 ** 300, 300))
        for told, index in enumerate(range(0, 160, 2), 1):
            self.assertEqual(live.tell(index, "bob"), 2 ** (300 - told))
        self.assertEqual(live.sure(), list(range(0, 160, 2)))
        for _ in range(380):
            live.undo()
        self.assertEqual(told_by(live), told_by(Live(LOOPS)))
        self.assertEqual(live.add_all([LINE] * 300), 2 ** 300)
        self.assertEqual(live.owners(), [["ann", "bob"]] * 300)

    def test_a_large_band(self):
        chance = random.Random("large")
        writers = tuple((name, Machine(5, tuple(
            (state, sign, chance.randrange(5)) for state in range(5) for sign in "abcd"
        ), (0,))) for name in ("ann", "bob", "cid"))
        live = Live(Band(writers))
        for _ in range(300):
            self.assertGreater(live.add((chance.choice("abcd"), None)), 0)
        names = [owners[0] for owners in live.owners()]
        for index in range(0, 20):
            self.assertGreaterEqual(live.tell(index, names[index]), 0)
        self.assertEqual(len(live.owners()), 300)


if __name__ == "__main__":
    unittest.main()
