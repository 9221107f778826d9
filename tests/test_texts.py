"""Texts: promises [25] to [27]."""

import random
import re
import string
import unittest

import slow
from helpers import check_error, check_kept, check_new, no_lists, others, some_bands, some_machines, wrong_entries

from whoselines.bands import Band
from whoselines.errors import LineError, NoText
from whoselines.machines import Machine
from whoselines.texts import band_text, log_text, machine_text, read_band, read_log, read_machine

PLAIN = Machine(2, ((0, "open", 1), (1, "note", 1), (1, "shut", 0)), (0,))
SHORT = Machine(2, ((0, "note", 1),), (0, 1))
BAND = Band((("ann", PLAIN), ("bob", SHORT)), (("bob", "bob"), ("ann", "bob")), ("open", "note"))
PLAIN_TEXT = "size 2\n0 open 1\n1 note 1\n1 shut 0\nends 0"
SHORT_TEXT = "size 2\n0 note 1\nends 0 1"
BAND_TEXT = (
    f"writer ann\n{PLAIN_TEXT}\nwriter bob\n{SHORT_TEXT}\nbarred ann bob\nbarred bob bob\nshown note open"
)
FULL = Machine(5, tuple((state, sign, 4 - state) for state in range(5) for sign in "abcdefgh"), (4, 3, 2, 1, 0))
SEEN = Band((("ann", PLAIN), ("bob", SHORT)), (), ("by", "seen"))
BYS = Band((("by", PLAIN), ("note", SHORT)), (), ("by",))
MACHINES = some_machines(60, signs=("a", "b", "size", "ends"), sizes=(1, 2, 3, 4, 5)) + [
    PLAIN, SHORT, FULL, Machine(1), Machine(5), Machine(5, (), (0, 4, 2)),
    Machine(2, ((0, "ends", 1), (1, "barred", 0), (1, "shown", 1), (0, "writer", 0), (0, "size", 1))),
]
BANDS = some_bands(40, sizes=(1, 2, 5), kind="texts") + some_bands(15, writers=(3,), kind="texts") + [
    BAND, SEEN, BYS, Band((("shown", PLAIN), ("barred", SHORT), ("writer", FULL)), (("shown", "barred"),), ("ends",)),
]
STRAY = ["", " ", "\n", "\t", "0", "00", "1", "5", "6", "-1", "+1", "a", "A", "ann", "bob", "by", "ends", "size", "x y"]


def part_machine(rows):
    """The machine that the rows of the beginning of a text tell, read loosely."""
    size = int(re.fullmatch(r"size\s*(\S+)\s*", rows[0]).group(1))
    arrows, ends = [], ()
    for row in rows[1:]:
        if row.startswith("ends"):
            ends = tuple(int(word) for word in row.split()[1:])
        else:
            state, sign, target = row.split()
            arrows.append((int(state), sign, int(target)))
    return Machine(size, tuple(arrows), ends)


def part_band(rows):
    """The band that the rows of the beginning of a text tell, read loosely."""
    starts = [at for at, row in enumerate(rows) if re.match(r"writer\b", row)] + [len(rows)]
    tails = [at for at, row in enumerate(rows) if re.match(r"(barred|shown)\b", row)] + [len(rows)]
    writers = []
    for start, after in zip(starts, starts[1:]):
        body = rows[start + 1:min(after, tails[0])]
        writers.append((rows[start].split()[1], part_machine(body) if body else Machine(1)))
    barred = tuple(tuple(row.split()[1:]) for row in rows if re.match(r"barred\b", row))
    shown = [word for row in rows if re.match(r"shown\b", row) for word in row.split()[1:]]
    return Band(tuple(writers), barred, tuple(shown))


def first_wrong(text, part, write):
    """The index of the first row that does not stand so in any text behind the rows ahead of it, found row by row.

    None if the text is one; then what is written is the text.
    """
    rows = text.split("\n")
    for at in range(len(rows)):
        try:
            written = write(part(rows[:at + 1])).split("\n")
        except (LineError, ValueError, AttributeError, IndexError):
            return at
        if written[:at + 1] != rows[:at + 1]:
            return at
    return None if written == rows else len(rows)


def near_rows(chance, text, stray=()):
    """Texts near to one: a row left out, put in, exchanged or twice, or a sign of it."""
    rows = text.split("\n")
    found = [text, text + "\n", "\n" + text, text + " ", " " + text, text + "\n" + text, text.replace("\n", "\n\n", 1)]
    for _ in range(4):
        at, other = chance.randrange(len(rows)), chance.randrange(len(rows))
        swapped = rows[:]
        swapped[at], swapped[other] = rows[other], rows[at]
        more = rows[:at] + [chance.choice(rows + list(stray) + STRAY)] + rows[at:]
        less = rows[:at] + rows[at + 1:]
        found += ["\n".join(part) for part in (swapped, more, less, rows[:at])]
    for _ in range(14):
        at = chance.randrange(len(text) + 1)
        sign = chance.choice(STRAY + list(string.ascii_letters + string.digits + string.punctuation.replace(chr(37), "")))
        found += [text[:at] + text[at + 1:], text[:at] + sign + text[at:], text[:at] + sign + text[at + 1:]]
    return found


class Machines(unittest.TestCase):
    def test_texts(self):
        self.assertEqual(machine_text(PLAIN), PLAIN_TEXT)
        self.assertEqual(machine_text(SHORT), SHORT_TEXT)
        self.assertEqual(machine_text(Machine(1)), "size 1\nends")
        mixed = Machine(4, ((3, "b", 0), (0, "b", 3), (0, "aa", 1), (0, "a", 2)), (3, 0, 2))
        self.assertEqual(machine_text(mixed), "size 4\n0 a 2\n0 aa 1\n0 b 3\n3 b 0\nends 0 2 3")
        self.assertEqual(machine_text(machine=PLAIN), PLAIN_TEXT)

    def test_rows_of_all_machines(self):
        for machine in MACHINES:
            rows = [f"size {machine.size()}"] + [" ".join(str(part) for part in arrow) for arrow in machine.arrows()]
            ends = "ends" + "".join(" " + str(state) for state in machine.ends())
            self.assertEqual(machine_text(machine), "\n".join(rows + [ends]))

    def test_read_back(self):
        for machine in MACHINES:
            found = read_machine(machine_text(machine))
            self.assertIs(type(found), Machine)
            self.assertEqual(found, machine)
            self.assertEqual(read_machine(text=machine_text(machine)), machine)

    def test_near_texts(self):
        chance = random.Random("machines")
        found = {}
        for machine in MACHINES:
            for text in near_rows(chance, machine_text(machine), ("0 a 0", "1 b 1", "ends 0", "ends 1 0", "size 1")):
                row = first_wrong(text, part_machine, machine_text)
                found[row] = found.get(row, 0) + 1
                if row is None:
                    self.assertEqual(machine_text(read_machine(text)), text)
                else:
                    check_error(self, "NoText", read_machine, text, field=row)
        self.assertGreater(min(found[row] for row in (None, 0, 1, 2, 3)), 50)

    def check_rows(self, text, row):
        self.assertEqual(first_wrong(text, part_machine, machine_text), row, text)
        check_error(self, "NoText", read_machine, text, field=row)

    def test_sizes(self):
        for row in ("", "size", "size ", "size 0", "size 6", "size 10", "size -1", "size +1", "size 01", "size 1 ",
                    " size 1", "size  1", "size 1 1", "Size 1", "siz 1", "size one", "size 1.0", "size 1\t", "1",
                    "ends", "0 a 0", "size " + "1" * 60, "size" + " " * 50 + "1", "size\t1", "size 1_"):
            for rest in ("", "\nends", "\n0 a 0\nends 0"):
                self.check_rows(row + rest, 0)

    def test_too_few_rows(self):
        self.check_rows("", 0)
        self.check_rows("size 1", 1)
        self.check_rows("size 1\n0 a 0", 2)
        for at in range(1, 5):
            self.check_rows("\n".join(PLAIN_TEXT.split("\n")[:at]), at)

    def test_a_row_too_many(self):
        for more in ("", " ", "ends", "ends 0", "0 a 0", "1 z 1", "size 2"):
            self.check_rows(PLAIN_TEXT + "\n" + more, 5)
            self.check_rows("size 2\nends\n" + more + "\nends", 2)

    def test_arrows(self):
        for row in ("0 a 2", "2 a 0", "0 a", "0 a 1 1", "0  a 1", " 0 a 1", "0 a 1 ", "00 a 1", "0 a 01", "0 A 1",
                    "0 a1 1", "0 ninechars 1", "-0 a 1", "0 a -1", "a 0 1", "0 1 a", "0 a +1", "0\ta\t1", "", " ",
                    "0 a 1\t", "0  1", "0 a ", " a 1", "0 a " + "1" * 60, "0 a_ 1", "ann"):
            for rest in ("", "\nends", "\n1 a 1\nends 0"):
                self.check_rows("size 2\n" + row + rest, 1)

    def test_arrows_that_do_not_ascend(self):
        self.check_rows("size 2\n1 a 0\n0 b 0\nends", 2)
        self.check_rows("size 2\n0 b 0\n0 a 0\nends", 2)
        self.check_rows("size 2\n0 b 0\n0 b 0\nends", 2)
        self.check_rows("size 2\n0 b 0\n0 b 1\nends", 2)
        self.check_rows("size 2\n0 b 1\n0 b 0\nends", 2)
        self.check_rows("size 2\n0 aa 1\n0 a 1\nends", 2)
        self.check_rows("size 2\n0 a 1\n0 b 1\n1 a 0\n1 b 0\n1 b 1\nends", 5)

    def test_too_many_arrows(self):
        rows = machine_text(FULL).split("\n")
        self.assertEqual(len(rows), 42)
        for more in ("4 i 0", "4 z 4"):
            self.check_rows("\n".join(rows[:-1] + [more] + rows[-1:]), 41)

    def test_ends(self):
        for row in ("end", "ends ", "ends 3", "ends 1 0", "ends 0 0", "ends 0  1", " ends", "ends 00", "ends 0 ",
                    "ends 0,1", "ends a", "ends -1", "Ends 0", "ends\t0", "ends0", "ends 0 1 2 3", "ends 01",
                    "ends " + "0" * 60, "ends 0\t", "ends +0", "ends 2 1", "ends 0 2 1"):
            for rest in ("", "\nends"):
                self.check_rows("size 3\n0 a 0\n" + row + rest, 2)

    def test_values_that_are_no_strings(self):
        for wrong in others() + no_lists() + [[], ["size 1", "ends"], PLAIN_TEXT.encode(), ("size 1\nends",)]:
            if not isinstance(wrong, str):
                check_error(self, "NoText", read_machine, wrong, field=0)
                check_error(self, "NoText", read_band, wrong, field=0)
                check_error(self, "NoText", read_log, SEEN, wrong, field=0)
                check_error(self, "NoText", read_log, band=SEEN, text=wrong, field=0)


class Bands(unittest.TestCase):
    def test_texts(self):
        self.assertEqual(band_text(BAND), BAND_TEXT)
        self.assertEqual(band_text(band=BAND), BAND_TEXT)
        self.assertEqual(band_text(Band((("bob", SHORT),))), f"writer bob\n{SHORT_TEXT}\nshown")

    def test_rows_of_all_bands(self):
        for band in BANDS:
            rows = []
            for name in band.names():
                rows += [f"writer {name}", machine_text(band.machine(name))]
            rows += ["barred " + " ".join(pair) for pair in band.barred()]
            self.assertEqual(band_text(band), "\n".join(rows + ["shown" + "".join(" " + sign for sign in band.shown())]))

    def test_read_back(self):
        for band in BANDS:
            found = read_band(band_text(band))
            self.assertIs(type(found), Band)
            self.assertEqual(found, band)
            self.assertEqual(read_band(text=band_text(band)), band)

    def test_near_texts(self):
        chance = random.Random("bands")
        found = {}
        stray = ("0 a 0", "ends 0", "size 1", "writer ann", "writer eve", "shown", "shown a", "barred ann bob",
                 "barred ann ann", "barred cid cid", "writer eve\nsize 1\nends")
        for band in BANDS:
            for text in near_rows(chance, band_text(band), stray):
                row = first_wrong(text, part_band, band_text)
                found[row] = found.get(row, 0) + 1
                if row is None:
                    self.assertEqual(band_text(read_band(text)), text)
                else:
                    check_error(self, "NoText", read_band, text, field=row)
        self.assertGreater(min(found[row] for row in (None, 0, 1, 2, 3, 4, 5, 6)), 20)

    def check_rows(self, text, row):
        self.assertEqual(first_wrong(text, part_band, band_text), row, text)
        check_error(self, "NoText", read_band, text, field=row)

    def test_writers(self):
        for row in ("", "writer", "writer ", "writer ann ", "writer  ann", " writer ann", "writer Ann", "writer ann bob",
                    "writer ninechars", "writer a1", "Writer ann", "writers ann", "size 2", "shown", "barred ann ann",
                    "writer\tann", "ends"):
            self.check_rows(row, 0)
            self.check_rows(row + "\n" + SHORT_TEXT + "\nshown", 0)
            if row not in ("shown", "barred ann ann"):
                self.check_rows(f"writer bob\n{SHORT_TEXT}\n{row}\n{SHORT_TEXT}\nshown", 4)

    def test_machines_of_writers(self):
        self.check_rows("writer ann", 1)
        self.check_rows("writer ann\nshown", 1)
        self.check_rows("writer ann\nsize 1", 2)
        self.check_rows("writer ann\nsize 1\nshown", 2)
        self.check_rows("writer ann\nsize 1\nends 1\nshown", 2)
        self.check_rows("writer ann\nsize 1\nends 0", 3)
        self.check_rows("writer ann\nsize 1\nends 0\n0 a 0", 3)
        self.check_rows("writer ann\nsize 1\nends 0\nends 0\nshown", 3)
        self.check_rows("writer ann\nsize 1\nends 0\nwriter bob\nwriter cid\nshown", 4)
        self.check_rows("writer ann\nsize 2\n1 a 0\n0 a 0\nends 0\nshown", 3)

    def test_names_of_writers(self):
        part = "\nsize 1\nends\n"
        self.check_rows(f"writer ann{part}writer ann{part}shown", 3)
        self.check_rows(f"writer ann{part}writer bob{part}writer ann{part}shown", 6)
        self.check_rows(f"writer ann{part}writer bob{part}writer cid{part}writer dan{part}shown", 9)
        band = read_band(f"writer cid{part}writer bob{part}writer ann{part}shown")
        self.assertEqual(band.names(), ("cid", "bob", "ann"))

    def test_barred(self):
        head = "writer ann\nsize 1\nends\nwriter bob\nsize 1\nends\n"
        for row in ("barred", "barred ann", "barred ann bob ann", "barred ann cid", "barred cid ann", "barred  ann bob",
                    "barred ann bob ", " barred ann bob", "barred ann  bob", "Barred ann bob", "barred ann Bob",
                    "barred\tann bob", "barred ann by"):
            self.check_rows(head + row, 6)
            self.check_rows(head + row + "\nshown", 6)
            self.check_rows(head + "barred ann ann\n" + row + "\nshown a", 7)
        self.check_rows(head + "barred bob ann\nbarred ann bob\nshown", 7)
        self.check_rows(head + "barred ann bob\nbarred ann bob\nshown", 7)
        self.check_rows(head + "barred ann bob\nbarred ann ann\nshown", 7)
        self.check_rows(head + "barred ann bob\nwriter cid\nsize 1\nends\nshown", 7)
        self.check_rows(head + "shown\nbarred ann bob", 7)
        self.check_rows(head + "barred ann ann\nbarred ann bob\nbarred bob ann\nbarred bob bob", 10)

    def test_shown(self):
        head = "writer ann\nsize 1\nends\n"
        for row in ("show", "shown ", "shown b a", "shown a a", "shown a  b", " shown", "shown A", "shown a1", "Shown a",
                    "shown ninechars", "shown a ", "shown\ta", "shown aa a", "shown 1", "shown,a"):
            self.check_rows(head + row, 3)
            self.check_rows(head + "barred ann ann\n" + row, 4)
        for more in ("", "shown", "shown b", "barred ann ann", "writer bob"):
            self.check_rows(head + "shown a\n" + more, 4)
        # Also signs that no machine has.
        self.assertEqual(read_band(head + "shown a aa b other").shown(), ("a", "aa", "b", "other"))

    def test_long_texts(self):
        letters = "abcdefghijklmnopqrst"
        signs = tuple(sorted(one + two for one in letters for two in letters)[:300])
        band = Band((("ann", FULL), ("bob", FULL), ("cid", FULL)), (), signs)
        self.assertEqual(read_band(band_text(band)), band)
        check_error(self, "NoText", read_machine, "\n" * 6000, field=0)
        check_error(self, "NoText", read_band, "writer ann\n" * 500, field=1)


class Logs(unittest.TestCase):
    def test_texts(self):
        log = [("open", None), ("seen", "bob"), ("by", "ann"), ("other", None)]
        self.assertEqual(log_text(SEEN, log), "open\nseen by bob\nby by ann\nother")
        self.assertEqual(log_text(band=SEEN, log=log), log_text(SEEN, log))
        self.assertEqual(log_text(SEEN, []), "")
        self.assertEqual(log_text(BYS, [("by", "by"), ("note", None)]), "by by by\nnote")

    def test_read_back(self):
        chance = random.Random("logs")
        for band in BANDS:
            entries = slow.entries(band, ("a", "by", "other"))
            for length in (0, 1, 2, 5, 300):
                log = [chance.choice(entries) for _ in range(length)]
                text = check_kept(self, log_text, band, log)
                rows = [sign + (f" by {name}" if name else "") for sign, name in log]
                self.assertEqual(text, "\n".join(rows))
                found = read_log(band, text)
                self.assertEqual(found, log)
                self.assertIs(type(found), list)
                self.assertEqual({type(entry) for entry in found}, {tuple} if length else set())

    def test_the_empty_text(self):
        self.assertEqual(read_log(SEEN, ""), [])
        check_error(self, "NoText", read_log, SEEN, "\n", field=0)
        check_error(self, "NoText", read_log, SEEN, " ", field=0)

    def test_near_texts(self):
        chance = random.Random("near")
        found = {}
        for band in BANDS:
            entries = slow.entries(band, ("a", "by"))
            written = {log_text(band, [entry]) for entry in slow.entries(band, ("a", "by", "zz"))}
            log = [chance.choice(entries) for _ in range(5)]
            for text in near_rows(chance, log_text(band, log)):
                # A row is one of the band's if it is a word that is not shown, or the text of an entry.
                wrong = [
                    at for at, row in enumerate(text.split("\n") if text else [])
                    if row not in written and not re.fullmatch("[a-z]{1,8}", row)
                    and not re.fullmatch(f"({'|'.join(band.shown()) or '0'}) by ({'|'.join(band.names())})", row)
                    or row in band.shown()
                ]
                found[min(wrong, default=None)] = found.get(min(wrong, default=None), 0) + 1
                if wrong:
                    check_error(self, "NoText", read_log, band, text, field=wrong[0])
                else:
                    self.assertEqual(log_text(band, read_log(band, text)), text)
        self.assertGreater(min(found[row] for row in (None, 0, 1, 2, 3, 4)), 50)

    def test_rows_that_are_no_entries(self):
        for row in ("seen", "seen by", "seen by ", "seen by cid", "seen by ann ", " seen by ann", "seen  by ann",
                    "seen by  ann", "seen by ann bob", "seen By ann", "seen ann", "note by ann", "note ", " note", "Note",
                    "ninechars", "a1", "by", "by ann", "seen by Ann", "seen by", "note\t", "seen\tby ann", "1", "",
                    "seen by None", "note by None", "note by ", "0" * 60):
            check_error(self, "NoText", read_log, SEEN, "note\n" + row, field=1)
            check_error(self, "NoText", read_log, SEEN, "note\nseen by ann\n" + row + "\nnote\n" + row, field=2)
            if row:
                check_error(self, "NoText", read_log, SEEN, row, field=0)
                check_error(self, "NoText", read_log, band=SEEN, text=row + "\nnote", field=0)

    def test_no_entry(self):
        for wrong in no_lists():
            check_error(self, "NoEntry", log_text, SEEN, wrong, field=0)
        band = Band((("ann", PLAIN), ("bob", SHORT)), (), ("seen",))
        for wrong in wrong_entries():
            check_error(self, "NoEntry", log_text, band, [wrong], field=0)
            check_error(self, "NoEntry", log_text, band=band, log=[("a", None), ("seen", "bob"), wrong], field=2)

    def test_answers_are_new(self):
        check_new(self, read_log, SEEN, "note\nseen by ann")

    def test_the_error(self):
        error = NoText(row="any")
        self.assertEqual(error.row, "any")


if __name__ == "__main__":
    unittest.main()
