"""The whole program: what its parts tell of the same bands fits together, and is told again alike."""

import copy
import os
import pathlib
import subprocess
import sys
import unittest

import slow
from helpers import some_bands

from whoselines.bands import Band
from whoselines.crews import crew, crews_count, fewest_writers, is_crew
from whoselines.desks import Desk
from whoselines.doubts import doubtful_signs, first_doubt, is_sure, least_lots, open_for, open_ring, told_apart
from whoselines.live import Live
from whoselines.logs import count, giving_at, is_log, least_told, number_of, owners, sure_lines, web
from whoselines.machines import Machine
from whoselines.papers import open_paper, paper, shows_open, shows_sure
from whoselines.pieces import is_mend, is_piece, least_mend, piece_owners
from whoselines.rows import row_apart, rows_count, shortest_row
from whoselines.texts import band_text, log_text, machine_text, read_band, read_log, read_machine

BANDS = some_bands(25, kind="whole") + some_bands(10, writers=(2,), onward=True, sizes=(3,), kind="whole")


def some_logs(band):
    """A few lists of entries of a band, logs among them."""
    found = [[]] + slow.lists(band, 2)[:5] + slow.lists(band, 3)[::7]
    doubt = first_doubt(band)
    return found if doubt is None else found + [doubt[0]]


def transcript(band):
    """All that the functions tell of a band."""
    told = [
        paper(band), open_paper(band), first_doubt(band), is_sure(band), doubtful_signs(band), open_for(band),
        open_ring(band), least_lots(band), told_apart(band, BANDS[0]), band_text(band), repr(band.signs()),
    ]
    for name in band.names():
        machine = band.machine(name)
        told += [machine_text(machine), shortest_row(machine), row_apart(machine, band.machine(band.names()[0]))]
        told += [rows_count(machine, length) for length in range(4)]
        told += [crew(machine, row) for row in ([], ["a"], ["a", "a"], ["b", "a"], ["a", "b", "a"])]
    for log in some_logs(band):
        told += [count(band, log), owners(band, log), sure_lines(band, log), web(band, log), is_piece(band, log)]
        told += [piece_owners(band, log), least_mend(band, log), log_text(band, log)]
        live = Live(band)
        told += [live.add_all(log), live.owners(), live.next_signs(), live.sure(), live.is_log()]
    return told


def ordered(desk, text):
    """Put a machine or a band on a desk, row by row of its text."""
    rows = text.split("\n")
    machines, name = [], None
    for row in rows:
        words = row.split(" ")
        if words[0] == "writer":
            name = words[1]
            machines.append(name)
        elif words[0] == "size":
            desk.order(f"machine {name} {words[1]}")
        elif words[0] == "ends":
            for state in words[1:]:
                desk.order(f"end {name} {state}")
        elif words[0] in ("barred", "shown"):
            break
        else:
            desk.order(f"arrow {name} {row}")
    desk.order("band " + " ".join(machines))
    for row in rows:
        words = row.split(" ")
        if words[0] == "barred":
            desk.order(f"bar {words[1]} {words[2]}")
        if words[0] == "shown":
            for sign in words[1:]:
                desk.order(f"show {sign}")


class Whole(unittest.TestCase):
    def test_told_again_alike(self):
        before = [transcript(band) for band in BANDS]
        kept = copy.deepcopy(before)
        texts = [band_text(band) for band in BANDS]
        again = [transcript(band) for band in reversed(BANDS)][::-1]
        self.assertEqual(before, kept)
        self.assertEqual(again, before)
        self.assertEqual([band_text(band) for band in BANDS], texts)
        self.assertEqual([transcript(read_band(text)) for text in texts], before)

    def test_no_order_of_members_tells(self):
        # Python mixes the members of sets by this variable.
        told = set()
        for seed in ("0", "1", "4711"):
            here = pathlib.Path(__file__).resolve().parent
            path = os.pathsep.join([str(here.parent), str(here)])
            told.add(subprocess.run(
                [sys.executable, "-c", "import test_whole as w; print([w.transcript(band) for band in w.BANDS])"],
                env=dict(os.environ, PYTHONHASHSEED=seed, PYTHONPATH=path, PYTHONDONTWRITEBYTECODE="1"),
                capture_output=True, check=True, text=True).stdout)
        self.assertEqual(len(told), 1)
        self.assertEqual(told.pop(), repr([transcript(band) for band in BANDS]) + "\n")

    def test_sure_bands(self):
        for band in BANDS:
            self.assertIs(is_sure(band), first_doubt(band) is None)
            self.assertIs(is_sure(band), shows_sure(band, paper(band)))
            if is_sure(band):
                self.assertEqual(doubtful_signs(band), [])
                self.assertEqual(least_lots(band), [()])
            for lot in least_lots(band):
                more = band.showing(lot)
                self.assertIs(shows_sure(more, paper(more)), True)

    def test_open_bands(self):
        for band in BANDS:
            most = open_for(band)
            self.assertEqual(open_paper(band) is None, most is None)
            self.assertEqual(open_ring(band) is None, most is not None)
            if most is not None:
                self.assertIs(shows_open(band, open_paper(band), most), True)
                self.assertIs(shows_open(band, open_paper(band), most - 1) if most else False, False)
            else:
                beginning, ring = open_ring(band)
                live = Live(band)
                live.add_all(beginning)
                for _ in range(10):
                    self.assertGreater(live.add_all(ring), 1)

    def test_doubts_in_a_live_log(self):
        for band in BANDS:
            doubt = first_doubt(band)
            if doubt is not None:
                log, giving, other = doubt
                live = Live(band)
                live.add_all(log)
                self.assertTrue(live.is_log())
                for index in least_told(band, log, giving):
                    live.tell(index, giving[index])
                self.assertTrue(live.is_log())
                kept = [giving_at(band, log, number) for number in range(count(band, log))]
                left = [one for one in kept if all(one[at] in names for at, names in enumerate(live.owners()))]
                self.assertIn(giving, left)
                self.assertNotEqual(number_of(band, log, giving), number_of(band, log, other))
                live.tell(0, other[0])
                live.undo()
                self.assertTrue(live.is_log())

    def test_mends_are_logs(self):
        for band in BANDS:
            for log in some_logs(band):
                mend = least_mend(band, log)
                if mend is None:
                    self.assertEqual(Live(band).count(), 0)
                    continue
                self.assertIs(is_mend(band, log, mend), True)
                self.assertEqual(is_log(band, log), all(step[0] == "keep" for step in mend))
                left = iter(log)
                mended, names = [], []
                for step in mend:
                    entry = next(left) if step[0] != "lost" else None
                    if step[0] == "lost":
                        entry = (step[1], step[2] if step[1] in band.shown() else None)
                    if step[0] != "foreign":
                        mended.append(entry)
                        names.append(step[-1])
                self.assertEqual(giving_at(band, mended, number_of(band, mended, names)), names)

    def test_texts_of_what_is_told(self):
        for band in BANDS:
            for log in some_logs(band):
                self.assertEqual(read_log(band, log_text(band, log)), log)
            self.assertIsNone(told_apart(band, read_band(band_text(band))))
            for name in band.names():
                machine = band.machine(name)
                self.assertIsNone(row_apart(machine, read_machine(machine_text(machine))))

    def test_a_desk_tells_what_the_functions_tell(self):
        for band in BANDS:
            desk = Desk()
            ordered(desk, band_text(band))
            for log in some_logs(band):
                for sign, name in log:
                    desk.order(f"line {sign}" + (f" by {name}" if name else ""))
                self.assertEqual(desk.order("log"), log_text(band, log) or "nothing")
                self.assertEqual(desk.order("count"), str(count(band, log)))
                rows = desk.order("owners").split("\n") if log else []
                self.assertEqual(rows, [" ".join(names) or "-" for names in owners(band, log)])
                for _ in log:
                    desk.order("undo")
            self.assertEqual(desk.order("sure") == "sure", is_sure(band))
            most = open_for(band)
            self.assertEqual(desk.order("open"), "open for ever" if most is None else f"open {most}")
            self.assertEqual(desk.order("lots").split("\n"), [" ".join(lot) or "-" for lot in least_lots(band)])

    def test_crews(self):
        machine = Machine(2, ((0, "a", 1), (1, "b", 0), (1, "a", 1)), (0,))
        for row in (list("ab"), list("aabb"), list("abab"), list("aaabbb")):
            numbers = crew(machine, row)
            self.assertIs(is_crew(machine, row, numbers), True)
            self.assertEqual(len(set(numbers)), fewest_writers(machine, row))
            self.assertGreater(crews_count(machine, row), 0)
            band = Band((("ann", machine), ("bob", machine), ("cid", machine)))
            self.assertIs(is_log(band, [(sign, None) for sign in row]), fewest_writers(machine, row) <= 3)

    def test_longer_than_what_may_be_passed(self):
        loop = Machine(1, ((0, "a", 0), (0, "b", 0)), (0,))
        band = Band((("ann", loop), ("bob", loop)))
        log = [("a", None), ("b", None)] * 400
        self.assertEqual(count(band, log), 2 ** 800)
        self.assertEqual(number_of(band, log, giving_at(band, log, 2 ** 800 - 1)), 2 ** 800 - 1)
        self.assertEqual(read_log(band, log_text(band, log)), log)
        self.assertEqual(len(least_mend(band, log)), 800)
        self.assertEqual(Live(band).add_all(log), 2 ** 800)


if __name__ == "__main__":
    unittest.main()
