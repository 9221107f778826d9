"""One log: promises [10] to [13]."""

import copy
import itertools
import random
import unittest

import slow
from helpers import check_error, check_kept, check_new, no_integers, no_lists, no_words, others, some_bands

from whoselines.bands import Band
from whoselines.logs import count, giving_at, is_log, least_told, number_of, owners, sure_lines, web
from whoselines.machines import Machine

PLAIN = Machine(2, ((0, "open", 1), (1, "note", 1), (1, "shut", 0)), (0,))
SHORT = Machine(2, ((0, "note", 1),), (0, 1))
BAND = Band((("ann", PLAIN), ("bob", SHORT)))
LOG = [("open", None), ("note", None), ("note", None), ("shut", None)]
GIVINGS = [["ann", "ann", "ann", "ann"], ["ann", "ann", "bob", "ann"], ["ann", "bob", "ann", "ann"]]
LOOP = Machine(1, ((0, "a", 0), (0, "seen", 0)), (0,))
ONE = Machine(2, ((0, "a", 1),), (1,))
NEVER = Machine(2, ((0, "a", 1), (1, "a", 0)))
BANDS = some_bands(60) + some_bands(12, sizes=(1, 2), signs=("a",), writers=(3,))


def some_lists(band, kind=""):
    """Lists of entries: all short ones, some logs, and some that are nearly logs."""
    chance = random.Random(f"{band.names()} {kind}")
    short = [log for length in range(4) for log in slow.lists(band, length)]
    found = chance.sample(short, min(len(short), 12)) + [[]]
    lines = slow.Lines(band, 4)
    for length in (1, 2, 3, 4):
        logs = [list(log) for log in lines.logs(length)]
        for log in chance.sample(logs, min(len(logs), 3)):
            at = chance.randrange(length)
            found += [log, log[:-1], log[:at] + log[at + 1:], log[:at] + [("zz", None)] + log[at + 1:]]
    return found


def trials(kind=""):
    """Bands with lists of entries and all right givings of these, found by plain trial."""
    for band in BANDS:
        for log in some_lists(band, kind):
            yield band, log, slow.rights(band, log)


def last_first(standing):
    return standing[0], standing[1] is not None, standing[1] or ""


class Doc(unittest.TestCase):
    def test_example(self):
        self.assertEqual((count(BAND, LOG), owners(BAND, LOG)), (3, [["ann"], ["ann", "bob"], ["ann", "bob"], ["ann"]]))
        self.assertEqual([giving_at(BAND, LOG, number) for number in range(3)], GIVINGS)
        self.assertEqual([number_of(BAND, LOG, giving) for giving in GIVINGS], [0, 1, 2])
        self.assertEqual(sure_lines(BAND, LOG), [0, 3])
        self.assertEqual([least_told(BAND, LOG, giving) for giving in GIVINGS], [(1, 2), (2,), (1,)])
        self.assertEqual(web(BAND, LOG), [
            [((0, 0), None)],
            [((1, 0), "ann")],
            [((1, 0), "ann"), ((1, 1), "bob")],
            [((1, 0), "ann"), ((1, 1), "ann"), ((1, 1), "bob")],
            [((0, 0), "ann"), ((0, 1), "ann")],
        ])

    def test_by_name(self):
        self.assertIs(is_log(log=LOG, band=BAND), True)
        self.assertEqual(count(log=LOG, band=BAND), 3)
        self.assertEqual(giving_at(number=1, log=LOG, band=BAND), GIVINGS[1])
        self.assertEqual(number_of(giving=GIVINGS[2], log=LOG, band=BAND), 2)
        self.assertEqual(owners(log=LOG, band=BAND)[1], ["ann", "bob"])
        self.assertEqual(sure_lines(log=LOG, band=BAND), [0, 3])
        self.assertEqual(len(web(log=LOG, band=BAND)), 5)
        self.assertEqual(least_told(giving=GIVINGS[1], log=LOG, band=BAND), (2,))

    def test_kinds(self):
        self.assertIs(type(count(BAND, LOG)), int)
        self.assertIs(type(number_of(BAND, LOG, GIVINGS[0])), int)
        self.assertIs(type(least_told(BAND, LOG, GIVINGS[0])), tuple)
        for told in (giving_at(BAND, LOG, 0), owners(BAND, LOG), sure_lines(BAND, LOG), web(BAND, LOG)):
            self.assertIs(type(told), list)
        self.assertTrue(all(type(names) is list for names in owners(BAND, LOG)))
        for standings in web(BAND, LOG):
            self.assertIs(type(standings), list)
            self.assertTrue(all(type(one) is tuple and type(one[0]) is tuple for one in standings))


class Trials(unittest.TestCase):
    def test_is_log_and_count(self):
        logs = 0
        for band, log, givings in trials():
            self.assertIs(is_log(band, log), len(givings) > 0)
            self.assertEqual(count(band, log), len(givings))
            logs += bool(givings)
        self.assertGreater(logs, 200)

    def test_givings_in_order(self):
        for band, log, givings in trials():
            self.assertEqual([giving_at(band, log, number) for number in range(len(givings))], givings)
            self.assertEqual([number_of(band, log, giving) for giving in givings], list(range(len(givings))))
            check_error(self, "NoNumber", giving_at, band, log, len(givings))

    def test_owners_and_sure_lines(self):
        for band, log, givings in trials():
            told = [
                [name for name in band.names() if any(giving[at] == name for giving in givings)]
                for at in range(len(log))
            ]
            self.assertEqual(owners(band, log), told)
            self.assertEqual(sure_lines(band, log), [at for at in range(len(log)) if len(told[at]) == 1])

    def test_web(self):
        for band, log, givings in trials():
            told = [
                sorted({slow.behind(band, log[:at], giving[:at]) for giving in givings}, key=last_first)
                for at in range(len(log) + 1)
            ]
            self.assertEqual(web(band, log), told)

    def test_wrong_givings(self):
        for band, log, givings in trials("givings"):
            for names in itertools.product(band.names(), repeat=len(log)):
                if list(names) not in givings:
                    check_error(self, "NoGiving", number_of, band, log, list(names))
                    check_error(self, "NoGiving", least_told, band, log, list(names))

    def test_least_told(self):
        for band, log, givings in trials("told"):
            for giving in givings[:5]:
                self.assertEqual(least_told(band, log, giving), least_by_trial(givings, giving))


def least_by_trial(givings, giving):
    """Each set of indexes is tried, the least ones first."""
    for many in range(len(giving) + 1):
        for chosen in itertools.combinations(range(len(giving)), many):
            if [one for one in givings if all(one[at] == giving[at] for at in chosen)] == [giving]:
                return chosen
    return None


class NoLines(unittest.TestCase):
    def test_a_log(self):
        band = Band((("ann", LOOP), ("bob", SHORT)))
        self.assertIs(is_log(band, []), True)
        self.assertEqual((count(band, []), giving_at(band, [], 0), number_of(band, [], [])), (1, [], 0))
        self.assertEqual((owners(band, []), sure_lines(band, [])), ([], []))
        self.assertEqual(web(band, []), [[((0, 0), None)]])
        self.assertEqual(least_told(band, [], []), ())
        check_error(self, "NoNumber", giving_at, band, [], 1)
        check_error(self, "NoGiving", number_of, band, [], ["ann"])

    def test_no_log(self):
        for band in (Band((("ann", LOOP), ("bob", ONE))), Band((("ann", NEVER),))):
            self.assertIs(is_log(band, []), False)
            self.assertEqual(count(band, []), 0)
            self.assertEqual((owners(band, []), sure_lines(band, []), web(band, [])), ([], [], [[]]))
            check_error(self, "NoNumber", giving_at, band, [], 0)
            check_error(self, "NoGiving", number_of, band, [], [])
            check_error(self, "NoGiving", least_told, band, [], [])


class NoLog(unittest.TestCase):
    def test_lists_that_are_no_logs(self):
        for log in (LOG[:-1], LOG[1:], [("other", None)], LOG + [("note", None)] * 2, LOG * 2 + [("open", None)]):
            self.assertIs(is_log(BAND, log), False)
            self.assertEqual(count(BAND, log), 0)
            self.assertEqual((owners(BAND, log), sure_lines(BAND, log)), ([[]] * len(log), []))
            self.assertEqual(web(BAND, log), [[]] * (len(log) + 1))
            check_error(self, "NoNumber", giving_at, BAND, log, 0)
            check_error(self, "NoGiving", number_of, BAND, log, ["ann"] * len(log))

    def test_each_writer_ends(self):
        band = Band((("ann", LOOP), ("bob", ONE)))
        self.assertIs(is_log(band, [("seen", None)]), False)
        self.assertEqual(giving_at(band, [("seen", None), ("a", None)], 0), ["ann", "bob"])
        self.assertEqual(count(band, [("a", None)]), 1)


class BarredAndShown(unittest.TestCase):
    def test_barred(self):
        band = Band((("ann", LOOP), ("bob", LOOP)), (("ann", "ann"), ("bob", "bob")))
        self.assertEqual(count(band, [("a", None)] * 5), 2)
        self.assertEqual(giving_at(band, [("a", None)] * 3, 1), ["bob", "ann", "bob"])
        one_way = Band((("ann", LOOP), ("bob", LOOP)), (("ann", "bob"),))
        self.assertEqual(
            [giving_at(one_way, [("a", None)] * 3, number) for number in range(count(one_way, [("a", None)] * 3))],
            [["ann"] * 3, ["bob", "ann", "ann"], ["bob", "bob", "ann"], ["bob"] * 3],
        )
        alone = Band((("ann", LOOP),), (("ann", "ann"),))
        self.assertEqual([count(alone, [("a", None)] * many) for many in range(4)], [1, 1, 0, 0])
        self.assertEqual(web(band, [("a", None)])[1], [((0, 0), "ann"), ((0, 0), "bob")])

    def test_shown(self):
        band = Band((("ann", LOOP), ("bob", LOOP)), (), ("seen",))
        log = [("a", None), ("seen", "bob"), ("seen", "ann")]
        self.assertEqual(owners(band, log), [["ann", "bob"], ["bob"], ["ann"]])
        self.assertEqual(sure_lines(band, log), [1, 2])
        self.assertEqual(number_of(band, log, ["bob", "bob", "ann"]), 1)
        check_error(self, "NoGiving", number_of, band, log, ["bob", "ann", "ann"])
        barred = Band((("ann", LOOP), ("bob", LOOP)), (("bob", "ann"),), ("seen",))
        self.assertIs(is_log(barred, log), False)

    def test_order_of_the_names(self):
        for names in itertools.permutations(("ann", "bob", "cid")):
            band = Band(tuple((name, LOOP) for name in names))
            log = [("a", None)] * 3
            tried = [list(giving) for giving in itertools.product(names, repeat=3)]
            self.assertEqual([giving_at(band, log, number) for number in range(27)], tried)
            self.assertEqual(owners(band, log), [list(names)] * 3)
            self.assertEqual(web(band, log)[1:], [[((0, 0, 0), name) for name in ("ann", "bob", "cid")]] * 3)


class Long(unittest.TestCase):
    def test_300_lines(self):
        band = Band((("ann", LOOP), ("bob", LOOP), ("cid", LOOP)))
        log = [("a", None), ("seen", None)] * 150
        self.assertEqual(count(band, log), 3 ** 300)
        self.assertEqual(giving_at(band, log, 0), ["ann"] * 300)
        self.assertEqual(giving_at(band, log, 3 ** 300 - 1), ["cid"] * 300)
        self.assertEqual(giving_at(band, log, 3 ** 299), ["bob"] + ["ann"] * 299)
        self.assertEqual(giving_at(band, log, 10 ** 59)[:150], ["ann"] * 150)
        for number in (0, 1, 3 ** 300 // 2, 10 ** 59, 3 ** 300 - 1):
            self.assertEqual(number_of(band, log, giving_at(band, log, number)), number)
        check_error(self, "NoNumber", giving_at, band, log, 3 ** 300)
        self.assertEqual(owners(band, log), [["ann", "bob", "cid"]] * 300)
        self.assertEqual(len(web(band, log)), 301)
        check_error(self, "TooLong", least_told, band, log, ["ann"] * 300)

    def test_300_lines_barred_and_shown(self):
        band = Band((("ann", LOOP), ("bob", LOOP)), (("ann", "ann"),), ("seen",))
        log = [("a", None)] * 299 + [("seen", "ann")]
        ann, bob = 1, 1
        for _ in range(298):
            ann, bob = bob, ann + bob
        # Rows of 299 names without ann twice side by side, and with bob at the end.
        self.assertEqual(count(band, log), bob)
        self.assertEqual(sure_lines(band, log), [298, 299])

    def test_five_states_forty_arrows(self):
        chance = random.Random("five")
        machines = [
            Machine(5, tuple((state, sign, chance.randrange(5)) for state in range(5) for sign in "abcdefgh"), (0, 3))
            for _ in range(3)
        ]
        band = Band(tuple(zip(("ann", "bob", "cid"), machines)), (("ann", "bob"), ("bob", "cid")))
        log = [(chance.choice("abcdefgh"), None) for _ in range(300)]
        many = count(band, log)
        self.assertGreater(many, 10 ** 59)
        for number in (0, many // 3, many - 1):
            giving = giving_at(band, log, number)
            self.assertTrue(slow.is_right(band, log, giving))
            self.assertEqual(number_of(band, log, giving), number)


class LeastTold(unittest.TestCase):
    def test_of_12_and_of_13_lines(self):
        band = Band((("ann", LOOP), ("bob", LOOP)))
        self.assertEqual(least_told(band, [("a", None)] * 12, ["ann", "bob"] * 6), tuple(range(12)))
        check_error(self, "TooLong", least_told, band, [("a", None)] * 13, ["ann"] * 13)
        three = Band((("ann", LOOP), ("bob", ONE), ("cid", ONE)))
        giving = ["ann"] * 10 + ["cid", "bob"]
        self.assertEqual(least_told(three, [("a", None)] * 12, giving), (10, 11))

    def test_sure_logs(self):
        self.assertEqual(least_told(BAND, [("note", None)], ["bob"]), ())
        self.assertEqual(least_told(Band((("ann", LOOP),)), [("a", None)] * 12, ["ann"] * 12), ())
        alone = Band((("ann", LOOP),))
        check_error(self, "TooLong", least_told, alone, [("a", None)] * 13, ["ann"] * 13)

    def test_of_several_the_first(self):
        band = Band((("ann", LOOP), ("bob", LOOP)), (("ann", "ann"), ("bob", "bob")))
        self.assertEqual(least_told(band, [("a", None)] * 12, ["bob", "ann"] * 6), (0,))
        pairs = Machine(2, ((0, "a", 1), (1, "b", 0)), (0,))
        band = Band((("ann", pairs), ("bob", pairs)))
        log = [("a", None), ("b", None), ("a", None), ("b", None)]
        self.assertEqual(least_told(band, log, ["bob", "bob", "ann", "ann"]), (0, 2))
        # The lines 1 and 2 are as few, but stand behind 0 and 3.
        back = Machine(2, ((0, "b", 1), (1, "a", 0)), (0,))
        band = Band((("ann", Machine(1, ((0, "a", 0), (0, "b", 0)), (0,))), ("bob", back)))
        log = [("b", None), ("a", None), ("b", None), ("a", None)]
        giving = ["bob", "bob", "ann", "ann"]
        rights = slow.rights(band, log)
        self.assertEqual([one for one in rights if one[1:3] == giving[1:3]], [giving])
        self.assertEqual(least_told(band, log, giving), (0, 3))

    def test_no_giving_ahead_of_too_long(self):
        band = Band((("ann", LOOP), ("bob", LOOP)))
        for giving in no_lists() + [["ann"] * 12, ["ann"] * 14, ["cid"] * 13]:
            check_error(self, "NoGiving", least_told, band, [("a", None)] * 13, giving)
        check_error(self, "NoEntry", least_told, band, [("a", None)] * 13 + [None], None, field=13)


class Wrong(unittest.TestCase):
    def test_numbers(self):
        for number in [-1, 3, 4, 10 ** 59, -10 ** 59] + no_integers():
            check_error(self, "NoNumber", giving_at, BAND, LOG, number)
            check_error(self, "NoNumber", giving_at, number=number, band=BAND, log=LOG)
            check_error(self, "NoNumber", giving_at, BAND, LOG[1:], number)

    def test_givings(self):
        wrong = no_lists() + [
            [], ["ann"] * 3, ["ann"] * 5, ["bob"] * 4, tuple(GIVINGS[0]), [GIVINGS[0]], ["ann", "bob", "bob", "ann"],
            ["ann", "ann", "bob", "bob"], ["annn"] * 4, "annn", ["ann"] * 300, dict.fromkeys(GIVINGS[0]),
        ]
        for value in others() + no_words() + ["cid", "anna"]:
            wrong += [[value] * 4, ["ann", value, "ann", "ann"], ["ann", "ann", "ann", value]]
        for giving in wrong:
            check_error(self, "NoGiving", number_of, BAND, LOG, giving)
            check_error(self, "NoGiving", least_told, BAND, LOG, giving)
            check_error(self, "NoGiving", number_of, giving=giving, band=BAND, log=LOG)

    def test_nothing_is_changed(self):
        log, giving = copy.deepcopy(LOG), ["ann", "bob", "bob", "ann"]
        check_error(self, "NoGiving", number_of, BAND, log, giving)
        check_error(self, "NoNumber", giving_at, BAND, log, 3)
        check_error(self, "TooLong", least_told, Band((("ann", LOOP),)), [("a", None)] * 13, ["ann"] * 13)
        self.assertEqual((log, giving), (LOG, ["ann", "bob", "bob", "ann"]))
        self.assertEqual(count(BAND, log), 3)


class Kept(unittest.TestCase):
    def test_arguments_stay(self):
        for call in (is_log, count, owners, sure_lines, web):
            check_kept(self, call, BAND, list(LOG))
        check_kept(self, giving_at, BAND, list(LOG), 1)
        check_kept(self, number_of, BAND, list(LOG), list(GIVINGS[1]))
        check_kept(self, least_told, BAND, list(LOG), list(GIVINGS[1]))

    def test_told_lists_are_new(self):
        for log in (LOG, LOG[1:], []):
            for call in (owners, sure_lines, web):
                check_new(self, call, BAND, log)
        check_new(self, giving_at, BAND, LOG, 2)
        told = owners(BAND, LOG[1:])
        told[0].append("more")
        self.assertEqual(told[1], [])

    def test_told_twice_alike(self):
        for _ in range(2):
            self.assertEqual((is_log(BAND, LOG), count(BAND, LOG)), (True, 3))
            self.assertEqual(number_of(BAND, LOG, GIVINGS[2]), 2)
            self.assertEqual(least_told(BAND, LOG, GIVINGS[0]), (1, 2))


if __name__ == "__main__":
    unittest.main()
