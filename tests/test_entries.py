"""Entries, and the errors of all functions with a log: promises [10], [11], and [2] and [3] for them."""

import unittest

from helpers import check_error, no_lists, wrong_entries

from whoselines.bands import Band
from whoselines.entries import check_log, entry_of, is_entry, is_name
from whoselines.logs import count, giving_at, is_log, least_told, number_of, owners, sure_lines, web
from whoselines.machines import Machine
from whoselines.pieces import is_mend, is_piece, least_mend, piece_owners

LOOP = Machine(1, ((0, "a", 0), (0, "seen", 0)), (0,))
BAND = Band((("ann", LOOP), ("bob", LOOP)), (), ("seen", "other"))
RIGHT = [("a", None), ("seen", "bob"), ("b", None), ("other", "ann"), ("abcdefgh", None), ("seen", "ann")]
# Each function with an argument log, with what stands behind it where this is wrong, too.
CALLS = (
    (is_log, ()), (count, ()), (giving_at, (0,)), (giving_at, (None,)), (number_of, ([],)), (number_of, (None,)),
    (owners, ()), (sure_lines, ()), (web, ()), (least_told, ([],)), (least_told, (None,)), (is_piece, ()),
    (piece_owners, ()), (least_mend, ()), (is_mend, ([],)), (is_mend, (None,)),
)


class Entries(unittest.TestCase):
    def test_entries(self):
        for entry in RIGHT:
            self.assertIs(is_entry(BAND, entry), True)
        self.assertIs(is_entry(BAND.showing(("a",)), ("a", "bob")), True)
        self.assertIs(is_entry(BAND.showing(("a",)), ("a", None)), False)

    def test_no_entries(self):
        for value in wrong_entries() + no_lists():
            self.assertIs(is_entry(BAND, value), False, repr(value)[:60])

    def test_entry_of_a_line(self):
        self.assertEqual(entry_of(BAND, "a", "ann"), ("a", None))
        self.assertEqual(entry_of(BAND, "seen", "ann"), ("seen", "ann"))

    def test_names(self):
        self.assertIs(is_name(BAND, "bob"), True)
        for value in no_lists() + ["cid", "annbob", "Ann", ["ann"]]:
            self.assertIs(is_name(BAND, value), False)

    def test_lists_of_entries(self):
        self.assertIsNone(check_log(BAND, RIGHT * 50))
        self.assertIsNone(check_log(BAND, []))


class NoEntry(unittest.TestCase):
    def test_no_list(self):
        for value in no_lists() + [(("a", None),), ("a", None), {("a", None): 0}, iter([])]:
            for call, more in CALLS:
                check_error(self, "NoEntry", call, BAND, value, *more, field=0)

    def test_first_wrong_item_is_told(self):
        for value in wrong_entries():
            for call, more in CALLS:
                check_error(self, "NoEntry", call, BAND, [value], *more, field=0)
                check_error(self, "NoEntry", call, BAND, RIGHT + [value, value] + RIGHT, *more, field=6)
        for call, more in CALLS:
            check_error(self, "NoEntry", call, BAND, RIGHT * 49 + [("a", "ann")] + RIGHT, *more, field=294)

    def test_by_name(self):
        check_error(self, "NoEntry", is_log, log=[None], band=BAND, field=0)
        check_error(self, "NoEntry", giving_at, number=None, log=[None], band=BAND, field=0)
        check_error(self, "NoEntry", number_of, giving=None, log=[None], band=BAND, field=0)
        check_error(self, "NoEntry", least_told, giving=None, log=[("a", None)] * 299 + [1], band=BAND, field=299)
        check_error(self, "NoEntry", is_mend, mend=None, log=[None], band=BAND, field=0)

    def test_entries_of_another_band(self):
        shows = BAND.showing(("a",))
        for call, more in CALLS:
            check_error(self, "NoEntry", call, shows, [("seen", "ann"), ("a", None)], *more, field=1)
            check_error(self, "NoEntry", call, Band((("ann", LOOP),), (), ("seen",)), RIGHT, *more, field=1)

    def test_nothing_is_changed(self):
        log = [("a", None), ["seen", "ann"], ("a", None)]
        for call, more in CALLS:
            check_error(self, "NoEntry", call, BAND, log, *more, field=1)
            self.assertEqual(log, [("a", None), ["seen", "ann"], ("a", None)])
            self.assertEqual(BAND, Band((("ann", LOOP), ("bob", LOOP)), (), ("seen", "other")))


if __name__ == "__main__":
    unittest.main()
