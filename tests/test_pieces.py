"""Pieces and mends: promises [17] and [18]."""

import copy
import random
import unittest

import slow
from helpers import check_kept, check_new, no_lists, no_words, others, some_bands

from whoselines.bands import Band
from whoselines.logs import owners
from whoselines.machines import Machine
from whoselines.pieces import is_mend, is_piece, least_mend, piece_owners

PLAIN = Machine(2, ((0, "open", 1), (1, "note", 1), (1, "shut", 0)), (0,))
SHORT = Machine(2, ((0, "note", 1),), (0, 1))
BAND = Band((("ann", PLAIN), ("bob", SHORT)))
SHOWS = Band((("ann", PLAIN), ("bob", SHORT)), (("bob", "bob"),), ("note",))
NO_LOG = Band((("ann", Machine(1, ((0, "a", 0),))), ("bob", SHORT)))
LOOP = Machine(1, ((0, "a", 0),), (0,))
ONWARD = some_bands(40, sizes=(1, 2, 3), writers=(1, 2, 2), onward=True) + some_bands(
    10, sizes=(1, 2), writers=(3,), onward=True)
ROUND = some_bands(50, sizes=(1, 2, 3), writers=(1, 2, 3), kind="pieces")
OPENED, NOTED, SHUT = ("open", None), ("note", None), ("shut", None)


def longest(band):
    return sum(band.machine(name).size() - 1 for name in band.names())


def some_lists(band, most):
    """Short lists of entries, and pieces of logs with an entry more or less."""
    chance = random.Random(f"{band.names()} {most}")
    short = [log for length in range(most + 1) for log in slow.lists(band, length)]
    found = [[]] + chance.sample(short, min(len(short), 10))
    lines = slow.Lines(band, 4)
    for log in [list(log) for length in lines.lengths() for log in lines.logs(length)][:40:5]:
        at = chance.randrange(len(log) + 1)
        found += [log[:at], log[at:], log[:at] + [("a", None)] * ("a" not in band.shown()) + log[at:], log[::-1]]
    return found


def givings_within(band, log):
    """All givings of a list of entries that lead from some standing of some log to another one."""
    reached = slow.reached_from(band, slow.beginning(band))
    ways = [((), standing) for standing in reached if slow.is_alive(band, standing)]
    for sign, shown in log:
        ways = [
            (names + (name,), slow.step(band, standing, sign, name)) for names, standing in ways
            for name in band.names() if shown == (name if sign in band.shown() else None)
        ]
        ways = [way for way in ways if way[1] is not None]
    return {names for names, standing in ways if slow.is_alive(band, standing)}


class Pieces(unittest.TestCase):
    def test_trials_of_all_logs(self):
        for band in ONWARD:
            lines = slow.Lines(band, longest(band))
            pieces = {}
            for length in lines.lengths():
                for log, givings in lines.logs(length).items():
                    for start in range(length + 1):
                        for end in range(start, length + 1):
                            told = pieces.setdefault(log[start:end], set())
                            told.update(names[start:end] for names in givings)
            for log in some_lists(band, 3) + [list(log) for log in list(pieces)[:100]]:
                givings = pieces.get(tuple(log), set())
                self.assertIs(is_piece(band, log), tuple(log) in pieces)
                self.assertEqual(piece_owners(band, log), [
                    [name for name in band.names() if name in {names[at] for names in givings}]
                    for at in range(len(log))
                ])

    def test_trials_of_all_standings(self):
        pieces = 0
        for band in ROUND:
            for log in some_lists(band, 4):
                givings = givings_within(band, log)
                self.assertIs(is_piece(band, log), len(givings) > 0)
                self.assertEqual(piece_owners(band, log), [
                    [name for name in band.names() if name in {names[at] for names in givings}]
                    for at in range(len(log))
                ])
                pieces += bool(givings)
        self.assertGreater(pieces, 100)

    def test_pieces_that_no_log_begins_with(self):
        self.assertIs(is_piece(BAND, [SHUT, OPENED]), True)
        self.assertIs(is_piece(BAND, [NOTED, SHUT, NOTED]), True)
        self.assertIs(is_piece(BAND, [SHUT]), True)
        self.assertEqual(piece_owners(BAND, [NOTED, SHUT, NOTED]), [["ann"], ["ann"], ["bob"]])
        self.assertEqual(piece_owners(BAND, [NOTED]), [["ann", "bob"]])
        self.assertEqual(owners(BAND, [NOTED]), [["bob"]])

    def test_no_pieces(self):
        for log in ([SHUT, SHUT], [OPENED, OPENED], [NOTED, SHUT, NOTED, NOTED], [("other", None)]):
            self.assertIs(is_piece(BAND, log), False)
            self.assertEqual(piece_owners(BAND, log), [[]] * len(log))

    def test_ways_that_lead_to_no_end(self):
        trap = Machine(3, ((0, "a", 1), (0, "b", 2), (2, "c", 2)), (1,))
        band = Band((("ann", trap),))
        self.assertIs(is_piece(band, [("a", None)]), True)
        for log in ([("b", None)], [("c", None)], [("b", None), ("c", None)]):
            self.assertIs(is_piece(band, log), False)
        # What stands ahead is to be there: no row leads to the state 2.
        far = Machine(3, ((0, "a", 1), (2, "c", 1)), (1,))
        self.assertIs(is_piece(Band((("ann", far),)), [("c", None)]), False)

    def test_no_lines(self):
        self.assertIs(is_piece(BAND, []), True)
        self.assertEqual(piece_owners(BAND, []), [])
        self.assertIs(is_piece(NO_LOG, []), False)
        self.assertEqual(piece_owners(NO_LOG, []), [])
        self.assertIs(is_piece(NO_LOG, [("a", None), NOTED]), False)
        self.assertEqual(piece_owners(NO_LOG, [("a", None), NOTED]), [[], []])

    def test_barred_and_shown(self):
        self.assertIs(is_piece(SHOWS, [("note", "bob"), SHUT]), True)
        self.assertIs(is_piece(SHOWS, [("note", "bob"), ("note", "bob")]), False)
        self.assertEqual(piece_owners(SHOWS, [SHUT, ("note", "bob")]), [["ann"], ["bob"]])
        band = Band((("ann", LOOP), ("bob", LOOP)), (("ann", "ann"), ("ann", "bob")))
        self.assertEqual(piece_owners(band, [("a", None)] * 3), [["bob"], ["bob"], ["ann", "bob"]])
        self.assertEqual(piece_owners(Band((("bob", LOOP), ("ann", LOOP))), [("a", None)]), [["bob", "ann"]])

    def test_300_lines(self):
        self.assertIs(is_piece(BAND, [SHUT, OPENED] * 150), True)
        self.assertEqual(piece_owners(BAND, [NOTED] * 300)[7], ["ann", "bob"])
        self.assertIs(is_piece(BAND, [SHUT, OPENED] * 149 + [SHUT, SHUT]), False)

    def test_by_name(self):
        self.assertIs(is_piece(log=[SHUT], band=BAND), True)
        self.assertEqual(piece_owners(log=[SHUT], band=BAND), [["ann"]])


def wrongs(mend):
    """How many steps of a mend are not keep."""
    return sum(step[0] != "keep" for step in mend)


def is_mend_slowly(band, log, mend):
    """Whether well formed steps are a right mend, as [18] says it."""
    left = list(log)
    lines = []
    for step in mend:
        if step[0] == "lost":
            lines.append(((step[1], step[2] if step[1] in band.shown() else None), step[2]))
        elif not left:
            return False
        elif step[0] == "keep":
            lines.append((left.pop(0), step[1]))
        else:
            left.pop(0)
    return not left and slow.is_right(band, [line[0] for line in lines], [line[1] for line in lines])


class LeastMend(unittest.TestCase):
    def check_mend(self, band, log, mend, least=None):
        self.assertIs(type(mend), list)
        self.assertTrue(all(type(step) is tuple for step in mend))
        self.assertTrue(is_mend_slowly(band, log, mend), (band, log, mend))
        self.assertIs(is_mend(band, log, mend), True)
        if least is not None:
            self.assertEqual(wrongs(mend), least)

    def test_trials_of_all_logs(self):
        mended = 0
        for band in ONWARD:
            lines = slow.Lines(band, longest(band))
            logs = [log for length in lines.lengths() for log in lines.logs(length)]
            for log in some_lists(band, 3):
                mend = least_mend(band, log)
                if logs:
                    least = min(len(log) + len(one) - 2 * slow.common(log, one) for one in logs)
                    self.check_mend(band, log, mend, least)
                    mended += least > 0
                else:
                    self.assertIsNone(mend)
        self.assertGreater(mended, 100)

    def test_trials_of_short_logs(self):
        for band in ROUND:
            lines = slow.Lines(band, 5)
            logs = [log for length in lines.lengths() for log in lines.logs(length)]
            if logs:
                for log in some_lists(band, 2):
                    if len(log) <= 2:
                        mend = least_mend(band, log)
                        self.check_mend(band, log, mend)
                        bound = min(len(log) + len(one) - 2 * slow.common(log, one) for one in logs)
                        self.assertLessEqual(wrongs(mend), bound)
                        # A log beyond five lines takes more than three steps of lost.
                        if bound <= 4:
                            self.assertEqual(wrongs(mend), bound)

    def test_logs_are_kept(self):
        log = [OPENED, NOTED, NOTED, SHUT]
        self.check_mend(BAND, log, least_mend(BAND, log), 0)
        self.assertEqual(least_mend(SHOWS, [("note", "bob")]), [("keep", "bob")])

    def test_lost_and_foreign_lines(self):
        self.check_mend(BAND, [OPENED], least_mend(BAND, [OPENED]), 1)
        lost = [("keep", "ann"), ("keep", "ann"), ("lost", "shut", "ann")]
        self.assertEqual(wrongs(lost), wrongs(least_mend(BAND, [OPENED, NOTED])))
        self.assertIs(is_mend(BAND, [OPENED, NOTED], lost), True)
        self.assertEqual(least_mend(BAND, [("other", None)]), [("foreign",)])
        self.check_mend(BAND, [OPENED, OPENED, SHUT], least_mend(BAND, [OPENED, OPENED, SHUT]), 1)
        self.check_mend(BAND, [SHUT, NOTED, OPENED], least_mend(BAND, [SHUT, NOTED, OPENED]), 2)
        # A name that is shown is not to be taken for another one.
        self.check_mend(SHOWS, [("note", "ann")], least_mend(SHOWS, [("note", "ann")]), 1)

    def test_no_lines(self):
        self.assertEqual(least_mend(BAND, []), [])
        two = Machine(3, ((0, "a", 1), (1, "b", 2)), (2,))
        self.assertEqual(least_mend(Band((("ann", two),)), []), [("lost", "a", "ann"), ("lost", "b", "ann")])

    def test_no_log(self):
        for log in ([], [NOTED], [("a", None)] * 300):
            self.assertIsNone(least_mend(NO_LOG, log))

    def test_300_lines(self):
        log = [("other", None)] * 300
        self.assertEqual(least_mend(BAND, log), [("foreign",)] * 300)
        log = [OPENED, NOTED] * 150
        mend = least_mend(BAND, log)
        self.check_mend(BAND, log, mend, 150)
        log = [NOTED] * 300
        self.check_mend(BAND, log, least_mend(BAND, log), 2)

    def test_mends_that_are_longer_than_300(self):
        chance = random.Random("long")
        five = Machine(5, tuple((at, "a", (at + 1) % 5) for at in range(4)) + ((4, "b", 0),), (0,))
        band = Band((("ann", five),))
        log = [("b", None)] * 300
        mend = least_mend(band, log)
        self.check_mend(band, log, mend, 300)
        log = [("a", None)] * 300
        self.check_mend(band, log, least_mend(band, log), 75)
        self.assertEqual(len(least_mend(band, log)), 375)
        machines = [
            Machine(5, tuple((at, sign, chance.randrange(5)) for at in range(5) for sign in "abcdefgh"), (at,))
            for at in (0, 3, 4)
        ]
        great = Band(tuple(zip(("ann", "bob", "cid"), machines)), (("ann", "ann"), ("bob", "cid")), ("a",))
        log = [(sign, "ann" if sign == "a" else None) for sign in "abcdefghzz" * 30]
        self.check_mend(great, log, least_mend(great, log))

    def test_by_name(self):
        self.assertEqual(least_mend(log=[("other", None)], band=BAND), [("foreign",)])
        self.assertIs(is_mend(mend=[("foreign",)], log=[("other", None)], band=BAND), True)


class IsMend(unittest.TestCase):
    def test_trials(self):
        chance = random.Random("mends")
        right = 0
        for band in ONWARD + ROUND:
            steps = [("keep", name) for name in band.names()] * 2 + [("foreign",)] * 2 + [
                ("lost", sign, name) for sign in band.signs() + ["zz"] for name in band.names()
            ]
            for log in some_lists(band, 2)[:8]:
                for _ in range(20):
                    mend = [chance.choice(steps) for _ in range(chance.randrange(5))]
                    told = is_mend(band, log, mend)
                    self.assertIs(told, is_mend_slowly(band, log, mend))
                    right += told
        self.assertGreater(right, 60)

    def test_right_ones(self):
        log = [OPENED, NOTED, SHUT]
        for mend in (
            [("keep", "ann"), ("keep", "ann"), ("keep", "ann")],
            [("keep", "ann"), ("keep", "bob"), ("keep", "ann")],
            [("foreign",), ("keep", "bob"), ("foreign",)],
            [("foreign",)] * 3,
            [("lost", "note", "bob"), ("foreign",), ("foreign",), ("foreign",)],
            [("lost", "open", "ann"), ("lost", "shut", "ann"), ("keep", "ann"), ("foreign",), ("keep", "ann")],
        ):
            self.assertIs(is_mend(BAND, log, mend), True)

    def test_not_all_entries_or_too_many(self):
        log = [NOTED, OPENED, SHUT]
        self.assertIs(is_mend(BAND, log, [("keep", "bob"), ("keep", "ann"), ("keep", "ann")]), True)
        self.assertIs(is_mend(BAND, log, [("keep", "bob")]), False)
        self.assertIs(is_mend(BAND, log, []), False)
        self.assertIs(is_mend(BAND, log, [("foreign",)] * 4), False)
        self.assertIs(is_mend(BAND, log, [("keep", "bob"), ("keep", "ann"), ("keep", "ann"), ("foreign",)]), False)
        self.assertIs(is_mend(BAND, [], [("keep", "bob")]), False)
        self.assertIs(is_mend(BAND, [], [("lost", "note", "bob")]), True)

    def test_not_a_log(self):
        self.assertIs(is_mend(BAND, [OPENED], [("keep", "ann")]), False)
        self.assertIs(is_mend(BAND, [NOTED], [("keep", "ann")]), False)
        self.assertIs(is_mend(BAND, [NOTED], [("keep", "bob"), ("lost", "note", "bob")]), False)
        self.assertIs(is_mend(BAND, [NOTED], [("lost", "other", "bob"), ("foreign",)]), False)
        barred = Band((("ann", LOOP),), (("ann", "ann"),))
        self.assertIs(is_mend(barred, [("a", None)], [("keep", "ann"), ("lost", "a", "ann")]), False)
        self.assertIs(is_mend(barred, [("a", None)] * 2, [("keep", "ann"), ("foreign",)]), True)

    def test_names_that_are_shown(self):
        both = Band((("ann", LOOP), ("bob", LOOP)), (), ("a",))
        self.assertIs(is_mend(both, [("a", "ann")], [("keep", "ann")]), True)
        self.assertIs(is_mend(both, [("a", "ann")], [("keep", "bob")]), False)
        self.assertIs(is_mend(both, [("a", "ann")], [("lost", "a", "bob"), ("foreign",)]), True)
        self.assertIs(is_mend(Band((("ann", LOOP), ("bob", LOOP))), [("a", None)], [("keep", "bob")]), True)

    def test_band_without_log(self):
        self.assertIs(is_mend(NO_LOG, [], []), False)
        self.assertIs(is_mend(NO_LOG, [NOTED], [("foreign",)]), False)

    def test_any_value(self):
        for mend in no_lists() + [(("keep", "bob"),), "keep", {("keep", "bob"): 1}, iter([("keep", "bob")])]:
            self.assertIs(is_mend(BAND, [NOTED], mend), False)
            self.assertIs(is_mend(BAND, [], mend), False)

    def test_any_steps(self):
        wrong = no_lists() + [
            ("keep",), ("keep", "bob", "bob"), ["keep", "bob"], ("foreign", "bob"), ("foreign", None), ("lost",),
            ("lost", "bob"), ("lost", "note"), ("lost", "bob", "note"), ("lost", "note", "bob", 1), ["foreign"],
            "foreign", "keep", ("kept", "bob"), ("keep", ("bob",)), ("Keep", "bob"), (("keep", "bob"),), [("keep",)],
            ("keep", "cid"), ("lost", "note", "cid"), (None, "bob"), ("note", "bob"), ("bob",), ("note",), [[[]]],
        ]
        for value in others() + no_words():
            wrong += [
                ("keep", value), (value, "bob"), (value,), ("lost", value, "bob"), ("lost", "note", value),
                (value, "note", "bob"),
            ]
        self.assertIs(is_mend(BAND, [NOTED], [("keep", "bob")]), True)
        for step in wrong:
            self.assertIs(is_mend(BAND, [NOTED], [step]), False, repr(step)[:60])
            self.assertIs(is_mend(BAND, [NOTED], [("keep", "bob"), step]), False)
            self.assertIs(is_mend(BAND, [NOTED], [step, ("keep", "bob")]), False)
            self.assertIs(is_mend(BAND, [], [step]), False)
            self.assertIs(is_mend(SHOWS, [("note", "bob")], [("keep", "bob"), step]), False)
            self.assertIs(is_mend(SHOWS, [("note", "bob")], [step]), False)


class Kept(unittest.TestCase):
    def test_arguments_stay(self):
        log = [SHUT, NOTED, ("other", None), OPENED]
        for call in (is_piece, piece_owners, least_mend):
            check_kept(self, call, BAND, copy.deepcopy(log))
        check_kept(self, is_mend, BAND, log, least_mend(BAND, log))
        check_kept(self, is_mend, BAND, log, [("keep", ["ann", {}]), [[]], {}, ("foreign",)])

    def test_told_lists_are_new(self):
        for log in ([SHUT, OPENED], [SHUT, SHUT], [NOTED], []):
            check_new(self, piece_owners, BAND, log)
            check_new(self, least_mend, BAND, log)

    def test_told_twice_alike(self):
        log = [NOTED, SHUT, NOTED]
        for _ in range(2):
            self.assertIs(is_piece(BAND, log), True)
            self.assertIs(is_mend(BAND, log, least_mend(BAND, log)), True)


if __name__ == "__main__":
    unittest.main()
