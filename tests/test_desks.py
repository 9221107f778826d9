"""The desk: promise [28]."""

import copy
import random
import re
import string
import unittest

from helpers import check_error, no_lists, no_words, others

from whoselines import crews, doubts, errors, logs, texts
from whoselines.bands import Band
from whoselines.desks import Desk
from whoselines.machines import Machine

START = [
    "machine ann 2", "arrow ann 0 open 1", "arrow ann 1 note 1", "arrow ann 1 shut 0", "end ann 0",
    "machine bob 2", "arrow bob 0 note 1", "end bob 0", "end bob 1",
]
BAND = START + ["band ann bob"]
LOG = BAND + ["line open", "line note", "line note", "line shut"]
ASKING = ("log", "count", "owners", "sure", "open", "lots")
WORD, STATE = "([a-z]{1,8})", "(0|[1-9][0-9]?)"
FORMS = [re.compile(form) for form in (
    f"(machine) {WORD} ([1-5])", f"(arrow) {WORD} {STATE} {WORD} {STATE}", f"(end) {WORD} {STATE}",
    f"(band) {WORD}(?: {WORD})?(?: {WORD})?", f"(bar) {WORD} {WORD}", f"(show) {WORD}",
    f"(line) {WORD}(?: by {WORD})?", f"(writers) {WORD}((?: [a-z]{{1,8}})*)", "(log|count|owners|sure|open|lots|undo)",
)]


def desk_of(orders):
    desk = Desk()
    for order in orders:
        desk.order(order)
    return desk


class Plain:
    """A desk in plain lists, which are copied ahead of each change."""

    def __init__(self):
        self.machines, self.band, self.log, self.before = {}, None, [], []

    def order(self, text):
        """The answer, or the error that the desk is to raise."""
        found = [match.groups() for match in (form.fullmatch(text) for form in FORMS) if match]
        if not found:
            return errors.NoOrder("")
        words = [word for word in found[0] if word is not None]
        if words[0] == "band" and len(set(words[1:])) < len(words) - 1:
            return errors.NoOrder("")
        if words[0] == "undo":
            if not self.before:
                return errors.NothingToUndo("")
            self.machines, self.band, self.log = self.before.pop()
            return "undone"
        kept = copy.deepcopy((self.machines, self.band, self.log))
        answer = getattr(self, "do_" + words[0])(*words[1:])
        if words[0] in ("machine", "arrow", "end", "band", "bar", "show", "line") and isinstance(answer, str):
            self.before.append(kept)
        return answer

    def made(self, name):
        size, arrows, ends = self.machines[name]
        return Machine(size, tuple(arrows), tuple(ends))

    def the_band(self):
        writers, barred, shown = self.band
        return Band(tuple(writers), tuple(barred), tuple(shown))

    def do_machine(self, name, size):
        self.machines[name] = (int(size), [], [])
        return f"machine {name}"

    def do_arrow(self, name, state, sign, target):
        if name not in self.machines:
            return errors.NoName("")
        size, arrows, _ = self.machines[name]
        if int(state) >= size or int(target) >= size:
            return errors.NoState("")
        if len(arrows) == 40 or any(arrow[:2] == (int(state), sign) for arrow in arrows):
            return errors.NoArrow(len(arrows))
        arrows.append((int(state), sign, int(target)))
        return f"arrows {len(arrows)}"

    def do_end(self, name, state):
        if name not in self.machines:
            return errors.NoName("")
        size, _, ends = self.machines[name]
        if int(state) >= size:
            return errors.NoState("")
        if int(state) in ends:
            return errors.NoEnds("")
        ends.append(int(state))
        return f"ends {len(ends)}"

    def do_band(self, *names):
        if any(name not in self.machines for name in names):
            return errors.NoName("")
        self.band, self.log = ([(name, self.made(name)) for name in names], [], []), []
        return f"band {len(names)}"

    def do_bar(self, one, two):
        if self.band is None:
            return errors.NoBand("")
        if not {one, two} <= {name for name, _ in self.band[0]}:
            return errors.NoName("")
        if (one, two) in self.band[1]:
            return errors.NoBarred("")
        self.band[1].append((one, two))
        self.log = []
        return f"barred {len(self.band[1])}"

    def do_show(self, sign):
        if self.band is None:
            return errors.NoBand("")
        if sign in self.band[2]:
            return errors.NoShown("")
        self.band[2].append(sign)
        self.log = []
        return f"shown {len(self.band[2])}"

    def do_line(self, sign, name=None):
        if self.band is None:
            return errors.NoBand("")
        if name is not None and name not in [one for one, _ in self.band[0]]:
            return errors.NoName("")
        if (name is not None) != (sign in self.band[2]):
            return errors.NoEntry(len(self.log))
        self.log.append((sign, name))
        return f"lines {len(self.log)}"

    def do_log(self):
        if self.band is None:
            return errors.NoBand("")
        return texts.log_text(self.the_band(), self.log) or "nothing"

    def do_count(self):
        return errors.NoBand("") if self.band is None else str(logs.count(self.the_band(), self.log))

    def do_owners(self):
        if self.band is None:
            return errors.NoBand("")
        rows = logs.owners(self.the_band(), self.log)
        return "\n".join(" ".join(row) or "-" for row in rows) or "nothing"

    def do_sure(self):
        if self.band is None:
            return errors.NoBand("")
        doubt = doubts.first_doubt(self.the_band())
        return "sure" if doubt is None else "doubt " + str(len(doubt[0]))

    def do_open(self):
        if self.band is None:
            return errors.NoBand("")
        lines = doubts.open_for(self.the_band())
        return "open for ever" if lines is None else "open " + str(lines)

    def do_lots(self):
        if self.band is None:
            return errors.NoBand("")
        try:
            return "\n".join(" ".join(lot) or "-" for lot in doubts.least_lots(self.the_band()))
        except errors.TooLong as error:
            return error

    def do_writers(self, name, signs):
        if name not in self.machines:
            return errors.NoName("")
        try:
            many = crews.fewest_writers(self.made(name), signs.split())
        except errors.TooLong as error:
            return error
        return "none" if many is None else str(many)


def some_order(chance, names=("ann", "bob", "cid"), signs=("a", "b")):
    """An order of any form, most of them right."""
    kind = chance.choice(
        ["machine"] + ["arrow"] * 6 + ["end"] * 4 + ["band"] * 3 + ["bar", "show"] * 2 + ["line"] * 7 + ["undo"] * 4
        + ["log", "count", "owners", "sure", "open", "lots", "writers"])
    name, sign, state = chance.choice(names), chance.choice(signs), chance.randrange(3)
    if kind == "machine":
        return f"machine {name} {chance.choice((1, 2, 2, 3))}"
    if kind == "arrow":
        return f"arrow {name} {state} {sign} {chance.randrange(3)}"
    if kind == "end":
        return f"end {name} {state}"
    if kind == "band":
        return "band " + " ".join(chance.sample(names, chance.choice((1, 2, 2, 3))))
    if kind == "bar":
        return f"bar {chance.choice(names[:2])} {chance.choice(names)}"
    if kind == "show":
        return f"show {sign}"
    if kind == "line":
        return f"line {sign}" + (f" by {name}" if chance.randrange(4) == 0 else "")
    if kind == "writers":
        return f"writers {name}" + "".join(" " + chance.choice(signs) for _ in range(chance.randrange(5)))
    return kind


def near_order(chance, order):
    """An order with a sign or a word left out, put in or exchanged."""
    at = chance.randrange(len(order) + 1)
    words = order.split(" ")
    place = chance.randrange(len(words) + 1)
    word = chance.choice(("", "ann", "by", "0", "5", "6", "99", "100", "07", "-1", "a b", "line", "undo", "ninechars"))
    sign = chance.choice(string.ascii_letters + string.digits + " \n\t.-+_")
    return chance.choice([
        order[:at] + order[at + 1:], order[:at] + sign + order[at:], order[:at] + sign + order[at + 1:],
        " ".join(words[:place] + words[place + 1:]), " ".join(words[:place] + [word] + words[place:]),
        " ".join(words[:place] + [word] + words[place + 1:]), order + " ", " " + order, order + "\n",
        order.upper(), order.replace(" ", "  ", 1), order.replace(" ", "\t", 1), order + "\n" + order,
    ])


class Trials(unittest.TestCase):
    def check_order(self, desk, plain, order):
        """Check an answer, or an error, against the plain desk; return what it was."""
        told = plain.order(order)
        if isinstance(told, str):
            answer = desk.order(order)
            self.assertEqual(answer, told, order)
            self.assertIs(type(answer), str)
            return order.split(" ")[0]
        check_error(self, type(told).__name__, desk.order, order, field=getattr(told, "index", None))
        return type(told).__name__

    def test_orders_of_all_forms(self):
        chance = random.Random("desk")
        found = {}
        for _ in range(80):
            desk, plain = Desk(), Plain()
            for order in BAND[:chance.choice((0, 5, 9, 10))]:
                self.check_order(desk, plain, order)
            for _ in range(150):
                order = some_order(chance)
                if chance.randrange(6) == 0:
                    order = near_order(chance, order)
                kind = self.check_order(desk, plain, order)
                found[kind] = found.get(kind, 0) + 1
        for kind in ("machine", "arrow", "end", "band", "bar", "show", "line", "undo", "writers", "NoOrder", "NoBand",
                     "NoName", "NoState", "NoArrow", "NoEnds", "NoBarred", "NoShown", "NoEntry") + ASKING:
            self.assertGreater(found[kind], 10, kind)

    def test_two_desks_side_by_side(self):
        chance = random.Random("two")
        one, two, plain_one, plain_two = Desk(), Desk(), Plain(), Plain()
        for _ in range(300):
            self.check_order(one, plain_one, some_order(chance))
            self.check_order(two, plain_two, some_order(chance))

    def test_undo_goes_back_over_everything(self):
        chance = random.Random("undo")
        for _ in range(10):
            desk, plain = desk_of(START), Plain()
            for order in START:
                plain.order(order)
            for _ in range(60):
                self.check_order(desk, plain, some_order(chance))
            while plain.before:
                self.check_order(desk, plain, "undo")
                for order in ("log", "count", "owners", "open", "writers ann a b", "writers bob a", "writers cid"):
                    self.check_order(desk, plain, order)
            self.check_order(desk, plain, "undo")


class Orders(unittest.TestCase):
    def check_answers(self, desk, orders):
        for order, answer in orders:
            self.assertEqual(desk.order(order), answer, order)

    def test_the_band_of_the_document(self):
        self.check_answers(Desk(), zip(LOG, (
            "machine ann", "arrows 1", "arrows 2", "arrows 3", "ends 1", "machine bob", "arrows 1", "ends 1", "ends 2",
            "band 2", "lines 1", "lines 2", "lines 3", "lines 4"), strict=True))
        self.check_answers(desk_of(LOG), [
            ("log", "open\nnote\nnote\nshut"), ("count", "3"), ("owners", "ann\nann bob\nann bob\nann"),
            ("sure", "doubt 3"), ("open", "open for ever"), ("lots", "note"),
        ])

    def test_arguments_by_name(self):
        self.assertEqual(Desk().order(text="machine ann 1"), "machine ann")

    def test_the_same_question_twice(self):
        desk = desk_of(LOG)
        for order in ASKING + ("writers ann open shut", "writers bob"):
            self.assertEqual(desk.order(order), desk.order(order))

    def test_bar_and_show(self):
        desk = desk_of(LOG)
        self.check_answers(desk, [
            ("show note", "shown 1"), ("log", "nothing"), ("owners", "nothing"), ("count", "1"), ("sure", "sure"),
            ("open", "open 0"), ("lots", "-"), ("line open", "lines 1"), ("line note by bob", "lines 2"),
            ("log", "open\nnote by bob"), ("owners", "-\n-"), ("count", "0"), ("line shut", "lines 3"),
            ("owners", "ann\nbob\nann"), ("bar bob ann", "barred 1"), ("log", "nothing"), ("line note by bob", "lines 1"),
            ("line open", "lines 2"), ("line shut", "lines 3"), ("owners", "-\n-\n-"), ("bar ann ann", "barred 2"),
            ("show other", "shown 2"), ("show by", "shown 3"), ("line by by ann", "lines 1"), ("log", "by by ann"),
        ])

    def test_lots(self):
        desk = desk_of([
            "machine ann 1", "arrow ann 0 a 0", "arrow ann 0 b 0", "end ann 0",
            "machine bob 1", "arrow bob 0 a 0", "arrow bob 0 b 0", "end bob 0", "band ann bob",
        ])
        self.check_answers(desk, [("lots", "a b"), ("show a", "shown 1"), ("lots", "b")])
        desk = desk_of(["machine ann 1", "band ann"])
        self.check_answers(desk, [("lots", "-"), ("sure", "sure"), ("open", "open 0"), ("count", "0")])

    def test_several_lots(self):
        # Either sign tells who wrote both lines.
        desk = desk_of([
            "machine ann 3", "arrow ann 0 a 1", "arrow ann 1 b 2", "end ann 0", "end ann 2",
            "machine bob 3", "arrow bob 0 a 1", "arrow bob 1 b 2", "end bob 0", "end bob 2",
            "band ann bob", "bar ann bob", "bar bob ann",
        ])
        self.check_answers(desk, [("lots", "a\nb"), ("sure", "doubt 2"), ("open", "open 2")])

    def test_writers(self):
        desk = desk_of(START)
        self.check_answers(desk, [
            ("writers ann", "0"), ("writers ann open shut", "1"), ("writers ann open open shut shut", "2"),
            ("writers ann open", "none"), ("writers bob", "0"), ("writers bob note note note", "3"),
            ("writers bob shut", "none"), ("writers bob other", "none"), ("writers bob" + " note" * 24, "24"),
            ("machine bob 1", "machine bob"), ("writers bob", "0"), ("writers bob note", "none"),
        ])

    def test_a_machine_in_the_place_of_another_one(self):
        desk = desk_of(START)
        self.check_answers(desk, [
            ("machine ann 1", "machine ann"), ("arrow ann 0 note 0", "arrows 1"), ("end ann 0", "ends 1"),
            ("band ann", "band 1"), ("line note", "lines 1"), ("count", "1"), ("undo", "undone"), ("undo", "undone"),
            ("undo", "undone"), ("undo", "undone"), ("undo", "undone"), ("arrow ann 0 note 0", "arrows 4"),
            ("end ann 1", "ends 2"),
        ])

    def test_a_machine_that_is_changed_behind_a_band(self):
        desk = desk_of(LOG)
        self.check_answers(desk, [
            ("arrow bob 1 note 1", "arrows 2"), ("machine ann 1", "machine ann"), ("count", "3"),
            ("owners", "ann\nann bob\nann bob\nann"), ("bar bob bob", "barred 1"), ("line note", "lines 1"),
            ("count", "1"), ("line note", "lines 2"), ("count", "0"), ("show shut", "shown 1"), ("line open", "lines 1"),
            ("line shut by ann", "lines 2"), ("count", "1"), ("end ann 0", "ends 1"), ("count", "1"),
            ("band ann bob", "band 2"), ("line note", "lines 1"), ("line note", "lines 2"), ("count", "1"),
            ("line open", "lines 3"), ("count", "0"),
        ])

    def test_a_band_told_again(self):
        desk = desk_of(LOG)
        desk.order("bar ann bob")
        desk.order("show note")
        self.check_answers(desk, [
            ("line open", "lines 1"), ("band ann bob", "band 2"), ("log", "nothing"), ("bar ann bob", "barred 1"),
            ("show note", "shown 1"), ("band bob", "band 1"), ("line note", "lines 1"), ("owners", "bob"),
            ("undo", "undone"), ("undo", "undone"), ("undo", "undone"), ("undo", "undone"), ("undo", "undone"),
            ("log", "open"), ("undo", "undone"), ("undo", "undone"), ("undo", "undone"),
            ("log", "open\nnote\nnote\nshut"), ("count", "3"),
        ])

    def test_the_order_of_names(self):
        desk = desk_of(LOG + ["band bob ann", "line open", "line note", "line shut"])
        self.check_answers(desk, [("owners", "ann\nbob ann\nann"), ("count", "2")])

    def test_three_writers(self):
        desk = desk_of(START + ["machine cid 1", "end cid 0", "band cid ann bob", "line note"])
        self.check_answers(desk, [("owners", "bob"), ("bar cid cid", "barred 1"), ("bar bob cid", "barred 2")])

    def test_the_empty_log(self):
        desk = desk_of(BAND)
        self.check_answers(desk, [("log", "nothing"), ("owners", "nothing"), ("count", "1")])

    def test_many_lines(self):
        desk = desk_of(["machine ann 1", "arrow ann 0 a 0", "end ann 0", "machine bob 1", "arrow bob 0 a 0", "end bob 0",
                        "band ann bob"])
        for many in range(1, 301):
            self.assertEqual(desk.order("line a"), f"lines {many}")
        self.assertEqual(desk.order("count"), str(2 ** 300))
        self.assertEqual(desk.order("owners"), "\n".join(["ann bob"] * 300))
        check_error(self, "NoEntry", desk.order, "line a by ann", field=300)
        for _ in range(307):
            desk.order("undo")
        check_error(self, "NothingToUndo", desk.order, "undo")


class Undo(unittest.TestCase):
    def test_each_form(self):
        for order in ("machine ann 1", "machine new 3", "arrow bob 1 shut 0", "end ann 1", "band bob", "band bob ann",
                      "bar ann ann", "show note", "line note"):
            desk, untouched = desk_of(LOG), desk_of(LOG)
            desk.order(order)
            self.assertEqual(desk.order("undo"), "undone")
            for asked in ASKING + ("writers ann open note shut", "writers bob note shut", "writers ann"):
                self.assertEqual(desk.order(asked), untouched.order(asked), order)
            for more in ("arrow ann 0 x 0", "arrow bob 0 x 0", "end ann 1", "line note", "bar ann ann", "show shut"):
                self.assertEqual(desk.order(more), untouched.order(more))

    def test_down_to_the_empty_desk(self):
        desk = desk_of(LOG + ["bar bob ann", "show note", "machine ann 1"])
        for asked in ASKING:
            desk.order(asked)
        for _ in range(len(LOG) + 3):
            self.assertEqual(desk.order("undo"), "undone")
        for _ in range(2):
            check_error(self, "NothingToUndo", desk.order, "undo")
        for asked in ASKING:
            check_error(self, "NoBand", desk.order, asked)
        check_error(self, "NoName", desk.order, "band ann")
        check_error(self, "NoName", desk.order, "writers ann")
        self.assertEqual(desk.order("machine ann 1"), "machine ann")

    def test_orders_that_ask_are_not_taken_back(self):
        desk = desk_of(LOG)
        for asked in ASKING + ("writers ann",):
            desk.order(asked)
        desk.order("undo")
        self.assertEqual(desk.order("log"), "open\nnote\nnote")


class Errors(unittest.TestCase):
    def check_unchanged(self, orders, name, order, field=None):
        """Check the error of an order, and that no order behind it tells of it."""
        desk = desk_of(orders)
        check_error(self, name, desk.order, order, field=field)
        untouched = desk_of(orders)
        for asked in ASKING + ("writers ann open shut", "writers bob note") if "band ann bob" in orders else ():
            self.assertEqual(desk.order(asked), untouched.order(asked))
        for _ in orders:
            desk.order("undo")
        check_error(self, "NothingToUndo", desk.order, "undo")

    def test_values_that_are_no_orders(self):
        for wrong in others() + no_lists() + no_words() + [[], ["undo"], ("undo",), b"undo"]:
            for desk in (Desk(), desk_of(LOG)):
                check_error(self, "NoOrder", desk.order, wrong)
                check_error(self, "NoOrder", desk.order, text=wrong)

    def test_texts_that_are_no_orders(self):
        wrong = [
            "", " ", "machine", "machine ann", "machine ann 0", "machine ann 6", "machine ann 06", "machine ann 01",
            "machine ann -1", "machine ann +1", "machine ann 1 1", "machine Ann 1", "machine ninechars 1", "machine 1 ann",
            "machine ann one", "machine ann 10", "machine ann 1.0", "machine ann  1", "machine  ann 1", "machine ann 1 ",
            " machine ann 1", "machine ann 1\n", "machine\tann 1", "machine ann " + "1" * 60, "Machine ann 1",
            "arrow", "arrow ann", "arrow ann 0", "arrow ann 0 a", "arrow ann 0 a 0 0", "arrow ann 00 a 0",
            "arrow ann 0 a 100", "arrow ann 100 a 0", "arrow ann 0 A 0", "arrow ann 0 ninechars 0", "arrow ann -1 a 0",
            "arrow ann 0 a 01", "arrow ann a 0 0", "arrow ann 0 0 a", "arrow ann 0 a " + "9" * 60, "arrow a1 0 a 0",
            "end", "end ann", "end ann 100", "end ann 01", "end ann 0 0", "end ann -1", "end ann a", "end 0 ann",
            "band", "band ", "band ann ann", "band ann bob ann", "band ann bob cid dan", "band Ann", "band ann  bob",
            "band ann bob ", "band 2", "band nobody nobody", "band a b c d", "band ninechars",
            "bar", "bar ann", "bar ann bob cid", "bar ann Bob", "bar ann ", "bar ann 1",
            "show", "show ", "show a b", "show A", "show 1", "show ninechars",
            "line", "line ", "line a by", "line a by ", "line a ann", "line a by ann bob", "line a of ann", "line A",
            "line a By ann", "line a by Ann", "line a  by ann", "line by by", "line a by 1", "line ninechars",
            "line a by ninechars", "line 1", "line a\n",
            "log ", "log log", " log", "Log", "logs", "log\n", "count 1", "owners ann", "sure?", "open for ever", "open 1",
            "lots -", "undo undo", "undo ", "\nundo", "undone", "nothing", "writers", "writers ", "writers ann ",
            "writers ann  open", "writers ann 1", "writers ann ninechars", "writers Ann", "writers 2", "-", "a" * 6000,
            " " * 6000, "writers" + " open" * 400 + " 1",
        ]
        for order in wrong:
            self.assertIsInstance(Plain().order(order), errors.NoOrder, order)
            for desk in (Desk(), desk_of(LOG)):
                check_error(self, "NoOrder", desk.order, order)
        self.check_unchanged(LOG, "NoOrder", "line")

    def test_no_band(self):
        for orders in ([], START, BAND + ["undo"]):
            desk = desk_of(orders)
            for order in ASKING + ("bar ann bob", "bar ann ann", "bar no body", "show note", "line note",
                                   "line note by ann", "line note by nobody"):
                check_error(self, "NoBand", desk.order, order)
        self.check_unchanged(START, "NoBand", "line note")

    def test_no_name(self):
        for order in ("arrow cid 0 a 0", "arrow cid 99 a 99", "end cid 0", "end cid 9", "band cid", "band ann cid",
                      "band cid ann bob", "writers cid", "writers cid a", "writers cid" + " a" * 25):
            self.check_unchanged(START, "NoName", order)
            self.check_unchanged(LOG, "NoName", order)
        more = START + ["machine cid 2", "band ann bob", "line note"]
        for order in ("bar ann cid", "bar cid ann", "bar cid cid", "line note by cid", "line other by cid",
                      "line note by note"):
            self.check_unchanged(more, "NoName", order)
            self.check_unchanged(more + ["show note"], "NoName", order)
        desk = desk_of(more)
        self.assertEqual(desk.order("band cid"), "band 1")
        check_error(self, "NoName", desk.order, "line note by ann")

    def test_no_state(self):
        for order in ("arrow ann 2 a 0", "arrow ann 0 a 2", "arrow ann 99 a 99", "arrow ann 2 open 0", "end ann 2",
                      "end ann 99", "arrow ann 0 open 2", "arrow bob 10 a 0"):
            self.check_unchanged(LOG, "NoState", order)
        full = ["machine ann 5"] + [f"arrow ann {state} {sign} 0" for state in range(5) for sign in "abcdefgh"]
        self.check_unchanged(full, "NoState", "arrow ann 0 z 5")

    def test_no_arrow(self):
        for order in ("arrow ann 0 open 1", "arrow ann 0 open 0", "arrow ann 1 note 0"):
            self.check_unchanged(LOG, "NoArrow", order, field=3)
        self.check_unchanged(LOG, "NoArrow", "arrow bob 0 note 0", field=1)
        full = ["machine ann 5"] + [f"arrow ann {state} {sign} 0" for state in range(5) for sign in "abcdefgh"]
        desk = desk_of(full[:-1])
        self.assertEqual(desk.order(full[-1]), "arrows 40")
        for order in ("arrow ann 0 z 0", "arrow ann 0 a 0"):
            self.check_unchanged(full, "NoArrow", order, field=40)

    def test_no_ends(self):
        for order in ("end ann 0", "end bob 0", "end bob 1"):
            self.check_unchanged(LOG, "NoEnds", order)

    def test_no_barred(self):
        orders = LOG + ["bar ann bob", "bar bob bob", "line note"]
        for order in ("bar ann bob", "bar bob bob"):
            self.check_unchanged(orders, "NoBarred", order)
        self.assertEqual(desk_of(orders).order("bar bob ann"), "barred 3")

    def test_no_shown(self):
        orders = LOG + ["show note", "show other", "line open"]
        for order in ("show note", "show other"):
            self.check_unchanged(orders, "NoShown", order)
        self.assertEqual(desk_of(orders).order("show open"), "shown 3")

    def test_no_entry(self):
        self.check_unchanged(BAND, "NoEntry", "line note by ann", field=0)
        self.check_unchanged(LOG, "NoEntry", "line note by ann", field=4)
        self.check_unchanged(LOG, "NoEntry", "line other by bob", field=4)
        self.check_unchanged(LOG + ["show note", "line open"], "NoEntry", "line note", field=1)

    def test_too_long(self):
        self.check_unchanged(LOG, "TooLong", "writers ann" + " open" * 25)
        self.check_unchanged(START, "TooLong", "writers bob" + " other" * 800)
        many = ["machine ann 2"] + [f"arrow ann 0 {sign} 1" for sign in "abcdefghi"] + ["band ann"]
        self.check_unchanged(many, "TooLong", "lots")
        self.assertEqual(desk_of(many + ["show c"]).order("lots"), "-")

    def test_nothing_to_undo(self):
        check_error(self, "NothingToUndo", Desk().order, "undo")
        check_error(self, "NothingToUndo", desk_of(["machine ann 1", "undo"]).order, "undo")

    def test_the_order_of_errors(self):
        # No order comes ahead of no band, this one of no name, this one of the others.
        check_error(self, "NoOrder", Desk().order, "line note by")
        check_error(self, "NoOrder", Desk().order, "band ann ann")
        check_error(self, "NoOrder", Desk().order, "arrow ann 100 a 0")
        check_error(self, "NoBand", Desk().order, "bar ann bob")
        desk = desk_of(BAND + ["bar ann bob", "show note", "line note by bob"])
        check_error(self, "NoName", desk.order, "line note by cid")
        check_error(self, "NoEntry", desk.order, "line open by ann", field=1)
        check_error(self, "NoName", desk.order, "arrow cid 9 note 9")
        check_error(self, "NoState", desk.order, "arrow bob 0 note 9")
        check_error(self, "NoArrow", desk.order, "arrow bob 0 note 1", field=1)
        check_error(self, "NoName", desk.order, "writers cid" + " a" * 30)


if __name__ == "__main__":
    unittest.main()
