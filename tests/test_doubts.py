"""All logs: promises [14] to [16]."""

import itertools
import random
import unittest

import slow
from helpers import check_error, check_kept, check_new, other_band, some_bands

from whoselines.bands import Band
from whoselines.doubts import (
    doubtful_signs, first_doubt, is_sure, least_lots, open_for, open_ring, told_apart,
)
from whoselines.entries import is_entry
from whoselines.logs import count, is_log
from whoselines.machines import Machine

PLAIN = Machine(2, ((0, "open", 1), (1, "note", 1), (1, "shut", 0)), (0,))
SHORT = Machine(2, ((0, "note", 1),), (0, 1))
BAND = Band((("ann", PLAIN), ("bob", SHORT)))
LOOP = Machine(1, ((0, "a", 0),), (0,))
BLOOP = Machine(1, ((0, "b", 0),), (0,))
STILL = Machine(1, (), (0,))
NEVER = Machine(2, ((0, "a", 1), (1, "a", 0)))
NO_LOG = Band((("ann", NEVER), ("bob", LOOP)))

# All logs of onward bands are short, so that trials go through all of them.
ONWARD = some_bands(90, sizes=(1, 2, 3, 4), writers=(1, 2, 2), onward=True) + some_bands(
    30, sizes=(1, 2, 3), writers=(3,), onward=True)
ROUND = some_bands(70, signs=("a", "b")) + some_bands(20, sizes=(2, 3), signs=("a", "b", "c"), writers=(2,))


def longest(band):
    """The greatest number of lines of an onward band."""
    return sum(band.machine(name).size() - 1 for name in band.names())


def trials():
    """Bands, what they write as far as it is gone through, and whether this is all."""
    for band in ONWARD:
        yield band, slow.Lines(band, longest(band)), True
    for band in ROUND:
        yield band, slow.Lines(band, 4), False


def two_giving_lengths(lines):
    return [
        length for length in lines.lengths() if any(len(givings) > 1 for givings in lines.logs(length).values())
    ]


def chain(many, sign):
    """A machine that writes as many signs a, and then this sign, or nothing at all."""
    arrows = tuple((state, "a", state + 1) for state in range(many)) + ((many, sign, many + 1),)
    return Machine(many + 2, arrows, (0, many + 1))


class FirstDoubt(unittest.TestCase):
    def check_doubt(self, band, doubt):
        self.assertIs(type(doubt), tuple)
        log, giving, other = doubt
        self.assertEqual([type(part) for part in doubt], [list, list, list])
        self.assertTrue(all(is_entry(band, entry) for entry in log))
        self.assertNotEqual(giving, other)
        self.assertTrue(slow.is_right(band, log, giving))
        self.assertTrue(slow.is_right(band, log, other))

    def test_trials(self):
        found = 0
        for band, lines, is_all in trials():
            lengths = two_giving_lengths(lines)
            doubt = first_doubt(band)
            self.assertIs(is_sure(band), doubt is None)
            if lengths:
                self.check_doubt(band, doubt)
                self.assertEqual(len(doubt[0]), lengths[0])
                found += 1
            elif is_all:
                self.assertIsNone(doubt)
            elif doubt is not None:
                self.check_doubt(band, doubt)
                self.assertGreater(len(doubt[0]), 4)
        self.assertGreater(found, 50)

    def test_doc_band(self):
        doubt = first_doubt(BAND)
        self.check_doubt(BAND, doubt)
        self.assertEqual(doubt[0], [("open", None), ("note", None), ("shut", None)])
        self.assertIs(is_sure(BAND), False)
        self.assertIs(is_sure(BAND.showing(("note",))), True)
        self.assertIsNone(first_doubt(BAND.showing(("note",))))

    def test_bands_without_logs(self):
        for band in (NO_LOG, Band((("ann", NEVER),)), Band((("ann", Machine(1)),))):
            self.assertIsNone(first_doubt(band))
            self.assertIs(is_sure(band), True)

    def test_one_writer(self):
        for machine in (LOOP, PLAIN, STILL):
            self.assertIsNone(first_doubt(Band((("ann", machine),))))

    def test_barred(self):
        self.assertEqual(first_doubt(Band((("ann", LOOP), ("bob", LOOP))))[0], [("a", None)])
        alone = Machine(2, ((0, "a", 1),), (1,))
        writers = (("ann", alone), ("bob", alone))
        self.assertEqual(len(first_doubt(Band(writers))[0]), 2)
        self.assertIsNone(first_doubt(Band(writers, (("ann", "bob"),))))
        self.assertIsNone(first_doubt(Band(writers, (("ann", "bob"), ("bob", "ann")))))
        self.assertEqual(len(first_doubt(Band(writers, (("ann", "ann"),)))[0]), 2)

    def test_one_round_gives_way_to_a_long_one(self):
        rows = Machine(5, tuple((state, "a", (state + 1) % 5) for state in range(5)), (0,))
        doubt = first_doubt(Band((("ann", rows), ("bob", rows))))
        self.assertEqual(doubt[0], [("a", None)] * 5)
        band = Band((("ann", rows), ("bob", Machine(4, tuple((at, "a", (at + 1) % 4) for at in range(4)), (0,)))))
        self.assertEqual(len(first_doubt(band)[0]), 9)

    def test_shown(self):
        band = Band((("ann", LOOP), ("bob", LOOP)), (), ("a",))
        self.assertIs(is_sure(band), True)
        both = Machine(1, ((0, "a", 0), (0, "b", 0)), (0,))
        self.assertEqual(first_doubt(Band((("ann", both), ("bob", both)), (), ("a",)))[0], [("b", None)])

    def test_great_bands(self):
        chance = random.Random("great")
        for barred in ((), (("ann", "ann"), ("bob", "bob"), ("cid", "cid"))):
            band = Band(tuple(
                (name, Machine(5, tuple(
                    (state, sign, chance.randrange(5)) for state in range(5) for sign in "abcdefgh"
                ), (2,))) for name in ("ann", "bob", "cid")
            ), barred)
            self.check_doubt(band, first_doubt(band))


class DoubtfulSigns(unittest.TestCase):
    def test_trials(self):
        for band, lines, is_all in trials():
            found = set()
            for length in lines.lengths():
                for log, givings in lines.logs(length).items():
                    found |= {log[at][0] for at in range(length) if len({names[at] for names in givings}) > 1}
            told = doubtful_signs(band)
            self.assertEqual(told, sorted(set(told)))
            self.assertIs(is_sure(band), told == [])
            if is_all:
                self.assertEqual(told, sorted(found))
            else:
                self.assertLessEqual(found, set(told))

    def test_doc_band(self):
        self.assertEqual(doubtful_signs(BAND), ["note"])
        self.assertEqual(doubtful_signs(BAND.showing(("note",))), [])

    def test_lines_that_no_log_has(self):
        # Both can write b, but only ann goes on to an end from there.
        one = Machine(3, ((0, "a", 0), (0, "b", 1), (1, "c", 0)), (0,))
        two = Machine(3, ((0, "a", 0), (0, "b", 1), (1, "c", 2)), (0,))
        self.assertEqual(doubtful_signs(Band((("ann", one), ("bob", two)))), ["a"])
        self.assertEqual(doubtful_signs(Band((("ann", one), ("bob", one)))), ["a", "b", "c"])

    def test_lines_that_are_told_later(self):
        barred = (("ann", "bob"), ("bob", "ann"))
        self.assertEqual(doubtful_signs(Band((("ann", chain(2, "b")), ("bob", chain(2, "c"))), barred)), [])
        self.assertEqual(doubtful_signs(Band((("ann", chain(2, "b")), ("bob", chain(2, "b"))), barred)), ["a", "b"])

    def test_a_doubt_that_comes_behind_another(self):
        first = Machine(3, ((0, "a", 1), (1, "b", 2)), (0, 2))
        self.assertEqual(doubtful_signs(Band((("ann", first), ("bob", first)))), ["a", "b"])
        once = Machine(2, ((0, "a", 1), (1, "a", 0), (1, "b", 1)), (1,))
        self.assertEqual(doubtful_signs(Band((("ann", once), ("bob", LOOP)))), ["a"])

    def test_without_doubt(self):
        self.assertEqual(doubtful_signs(NO_LOG), [])
        self.assertEqual(doubtful_signs(Band((("ann", LOOP), ("bob", BLOOP)))), [])


class OpenFor(unittest.TestCase):
    def test_trials(self):
        some = set()
        for band, lines, is_all in trials():
            most = 0
            for length in lines.lengths():
                for givings in lines.openings(length).values():
                    for one, two in itertools.combinations(givings, 2):
                        most = max(most, length - slow.first_difference(one, two))
            told = open_for(band)
            if is_all:
                self.assertEqual(told, most)
                self.assertIsNone(open_ring(band))
                some.add(told)
            elif told is not None:
                self.assertLessEqual(most, told)
                if told <= 3:
                    self.assertEqual(most, told)
        self.assertGreaterEqual(len(some), 4)

    def test_none_differ(self):
        for band in (NO_LOG, Band((("ann", PLAIN),)), Band((("ann", LOOP), ("bob", BLOOP))), BAND.showing(("note",))):
            self.assertIs(type(open_for(band)), int)
            self.assertEqual(open_for(band), 0)
            self.assertIsNone(open_ring(band))

    def test_some_number(self):
        # After the first a it can be either's, until the next line.
        one = Machine(3, ((0, "a", 1), (1, "b", 2)), (0, 2))
        two = Machine(3, ((0, "a", 1), (1, "c", 2)), (0, 2))
        barred = (("ann", "bob"), ("bob", "ann"))
        self.assertEqual(open_for(Band((("ann", one), ("bob", two)), barred)), 1)
        for many in (1, 2, 3):
            band = Band((("ann", chain(many, "b")), ("bob", chain(many, "c"))), barred)
            self.assertEqual(open_for(band), many)
            self.assertIs(is_sure(band), True)

    def test_sure_but_for_ever(self):
        one = Machine(3, ((0, "a", 1), (1, "a", 1), (1, "b", 2)), (0, 2))
        two = Machine(3, ((0, "a", 1), (1, "a", 1), (1, "c", 2)), (0, 2))
        band = Band((("ann", one), ("bob", two)), (("ann", "bob"), ("bob", "ann")))
        self.assertIs(is_sure(band), True)
        self.assertIsNone(open_for(band))

    def test_givings_that_lead_to_no_end(self):
        # bob can write a, but never comes to an end behind it.
        dead = Machine(2, ((0, "a", 1), (1, "a", 1), (1, "b", 1)), (0,))
        band = Band((("ann", LOOP), ("bob", dead)))
        self.assertEqual(open_for(band), 0)
        self.assertIsNone(open_for(Band((("ann", LOOP), ("bob", Machine(2, dead.arrows(), (1,)))))))

    def test_long_way_to_the_end(self):
        count_to = Machine(5, tuple((at, "a", at + 1) for at in range(4)), (4,))
        band = Band((("ann", count_to), ("bob", count_to)))
        self.assertEqual(open_for(band), 8)


class OpenRing(unittest.TestCase):
    def check_ring(self, band, told):
        self.assertIs(type(told), tuple)
        self.assertEqual([type(part) for part in told], [list, list])
        beginning, ring = told
        self.assertGreaterEqual(len(ring), 1)
        for times in range(5):
            entries = beginning + ring * times
            self.assertTrue(all(is_entry(band, entry) for entry in entries))
            heads = open_heads(band, entries, len(beginning))
            self.assertGreaterEqual(len(heads), 2, (band, told, times))

    def test_trials(self):
        found = 0
        for band in ROUND + some_bands(40, sizes=(1, 2, 3), writers=(2, 3), kind="ring"):
            told = open_ring(band)
            self.assertEqual(told is None, open_for(band) is not None)
            if told is not None:
                self.check_ring(band, told)
                found += 1
        self.assertGreater(found, 30)

    def test_doc_band(self):
        self.assertIsNone(open_for(BAND))
        self.check_ring(BAND, open_ring(BAND))

    def test_ring_that_begins_late(self):
        one = Machine(4, ((0, "a", 1), (1, "b", 2), (2, "c", 3), (3, "b", 2)), (2,))
        two = Machine(4, ((0, "a", 1), (1, "b", 2), (2, "c", 3), (3, "b", 2)), (0, 2))
        band = Band((("ann", one), ("bob", two)))
        self.assertIsNone(open_for(band))
        self.check_ring(band, open_ring(band))
        self.assertEqual(open_for(Band((("ann", one), ("bob", two)), (("ann", "bob"), ("bob", "ann")))), 0)

    def test_great_bands(self):
        chance = random.Random("rings")
        band = Band(tuple(
            (name, Machine(5, tuple((at, sign, chance.randrange(5)) for at in range(5) for sign in "abcd"), (2,)))
            for name in ("ann", "bob", "cid")
        ), (("ann", "ann"), ("bob", "bob")))
        self.check_ring(band, open_ring(band))


def open_heads(band, entries, many):
    """The first names, so many, of all open givings of entries; two are enough for each standing."""
    heads = {slow.beginning(band): {()}}
    for at, (sign, shown) in enumerate(entries):
        after = {}
        for standing, rows in heads.items():
            for name in band.names():
                behind = slow.step(band, standing, sign, name)
                if behind is not None and shown == (name if sign in band.shown() else None):
                    more = {row + (name,) for row in rows} if at < many else rows
                    after[behind] = set(sorted(after.get(behind, set()) | more)[:2])
        heads = after
    return set().union(*[rows for standing, rows in heads.items() if slow.is_alive(band, standing)])


class LeastLots(unittest.TestCase):
    def test_trials_of_all_sets(self):
        kinds = set()
        more = some_bands(25, sizes=(1, 2, 3), signs=("a", "b", "c", "d"), writers=(2, 3))
        for band in ONWARD[:40] + ROUND + more:
            hidden = [sign for sign in band.signs() if sign not in band.shown()]
            sure = [
                lot for many in range(len(hidden) + 1) for lot in itertools.combinations(hidden, many)
                if is_sure(band.showing(lot))
            ]
            least = sorted(lot for lot in sure if not any(set(one) < set(lot) for one in sure))
            told = least_lots(band)
            self.assertEqual(told, least)
            self.assertIs(type(told), list)
            self.assertTrue(all(type(lot) is tuple for lot in told))
            kinds.add((len(told), max(len(lot) for lot in told)))
        self.assertGreater(len(kinds), 4)

    def test_trials_of_all_lists(self):
        for band in ONWARD[:25]:
            hidden = [sign for sign in band.signs() if sign not in band.shown()]
            sure = [
                lot for many in range(len(hidden) + 1) for lot in itertools.combinations(hidden, many)
                if not two_giving_lengths(slow.Lines(band.showing(lot), longest(band)))
            ]
            self.assertEqual(
                least_lots(band), sorted(lot for lot in sure if not any(set(one) < set(lot) for one in sure)))

    def test_sure_bands(self):
        for band in (NO_LOG, Band((("ann", LOOP), ("bob", BLOOP))), Band((("ann", STILL),))):
            self.assertEqual(least_lots(band), [()])

    def test_either_sign(self):
        pair = Machine(2, ((0, "a", 1), (1, "b", 0)), (0,))
        band = Band((("ann", pair), ("bob", pair)), (("ann", "bob"), ("bob", "ann")))
        self.assertEqual(least_lots(band), [("a",), ("b",)])
        self.assertEqual(least_lots(BAND), [("note",)])

    def test_order_is_that_of_tuples(self):
        # Of each pair of signs one is enough: a and c, or a and aa, or b and c, or b and aa.
        rounds = Machine(3, ((0, "b", 1), (1, "a", 0), (0, "c", 2), (2, "aa", 0)), (0,))
        barred = (("ann", "bob"), ("bob", "ann"))
        for writers in ((("ann", rounds), ("bob", rounds)), (("bob", rounds), ("ann", rounds))):
            self.assertEqual(least_lots(Band(writers, barred)), [("a", "aa"), ("a", "c"), ("aa", "b"), ("b", "c")])

    def test_of_8_and_of_9_signs(self):
        signs = "abcdefgh"
        all_of_8 = Machine(1, tuple((0, sign, 0) for sign in signs), (0,))
        band = Band((("ann", all_of_8), ("bob", all_of_8)))
        self.assertEqual(least_lots(band), [tuple(signs)])
        nine = Machine(1, ((0, "i", 0),) + all_of_8.arrows(), (0,))
        check_error(self, "TooLong", least_lots, Band((("ann", nine), ("bob", all_of_8))))
        check_error(self, "TooLong", least_lots, band=Band((("ann", nine),)))
        self.assertEqual(least_lots(Band((("ann", nine), ("bob", all_of_8)), (), ("i",))), [tuple(signs)])
        self.assertEqual(least_lots(Band((("ann", nine), ("bob", nine)), (), ("c", "zz"))), [tuple("abdefghi")])
        # A shown sign of no machine does not count.
        check_error(self, "TooLong", least_lots, Band((("ann", nine),), (), ("zz",)))

    def test_lots_of_8_signs_in_pairs(self):
        arrows = tuple((0, sign, at + 1) for at, sign in enumerate("aceg"))
        arrows += tuple((at + 1, sign, 0) for at, sign in enumerate("bdfh"))
        pairs = Machine(5, arrows, (0,))
        band = Band((("ann", pairs), ("bob", pairs)), (("ann", "bob"), ("bob", "ann")))
        self.assertEqual(least_lots(band), sorted(itertools.product("ab", "cd", "ef", "gh")))

    def test_no_signs(self):
        self.assertEqual(least_lots(Band((("ann", STILL), ("bob", STILL)))), [()])
        self.assertEqual(least_lots(Band((("ann", LOOP), ("bob", LOOP)), (), ("a",))), [()])


class ToldApart(unittest.TestCase):
    def test_trials(self):
        chance = random.Random("apart")
        same = apart = 0
        for band in ONWARD + ROUND:
            most = min(longest(band), 5) if band in ONWARD else 4
            for _ in range(3):
                other = other_band(chance, band)
                lines, others = slow.Lines(band, most), slow.Lines(other, most)
                lengths = [
                    length for length in lines.lengths() if set(lines.logs(length)) != set(others.logs(length))
                ]
                log = told_apart(band, other)
                if log is None:
                    self.assertEqual(lengths, [])
                    same += 1
                else:
                    self.check_apart(band, other, log)
                    if lengths:
                        self.assertEqual(len(log), lengths[0])
                    else:
                        self.assertGreater(len(log), most)
                    apart += 1
        self.assertGreater(min(same, apart), 50)

    def check_apart(self, band, other, log):
        self.assertIs(type(log), list)
        has = [all(is_entry(one, entry) for entry in log) and is_log(one, log) for one in (band, other)]
        self.assertEqual(sorted(has), [False, True])

    def test_same_logs_of_unlike_parts(self):
        twice = Machine(2, ((0, "a", 1), (1, "a", 0)), (0,))
        thrice = Machine(3, ((0, "a", 1), (1, "a", 2), (2, "a", 0)), (0,))
        not_one = Machine(3, ((0, "a", 1), (1, "a", 2), (2, "a", 2)), (0, 2))
        pairs = [
            (Band((("ann", PLAIN), ("bob", SHORT))), Band((("x", SHORT), ("y", PLAIN)))),
            (Band((("ann", LOOP),)), Band((("ann", LOOP), ("bob", LOOP), ("cid", STILL)))),
            (Band((("ann", LOOP),)), Band((("bob", Machine(2, ((0, "a", 1), (1, "a", 0)), (0, 1))),))),
            (Band((("ann", twice), ("bob", thrice))), Band((("cid", not_one),))),
            (Band((("ann", PLAIN), ("bob", twice), ("cid", thrice))), Band((("ann", not_one), ("bob", PLAIN)))),
            (Band((("ann", LOOP), ("bob", LOOP)), (("ann", "ann"),)), Band((("ann", LOOP),))),
            (Band((("ann", LOOP),), (), ("b", "c")), Band((("bob", LOOP),))),
            (Band((("ann", LOOP),), (), ("a",)), Band((("ann", LOOP), ("bob", BLOOP)), (("ann", "bob"),), ("a",))),
        ]
        for band, other in pairs[:-1]:
            self.assertIsNone(told_apart(band, other))
            self.assertIsNone(told_apart(other, band))
            self.assertIsNone(told_apart(band, band))
        self.assertEqual(told_apart(*pairs[-1]), [("b", None)])

    def test_bands_without_logs(self):
        self.assertIsNone(told_apart(NO_LOG, Band((("cid", NEVER),))))
        self.assertEqual(told_apart(NO_LOG, Band((("ann", LOOP),))), [])
        self.assertEqual(told_apart(Band((("ann", STILL),)), NO_LOG), [])
        one = Machine(2, ((0, "a", 1),), (1,))
        self.assertEqual(told_apart(NO_LOG, Band((("ann", one),))), [("a", None)])

    def test_names_count_where_they_are_shown(self):
        band = Band((("ann", LOOP),))
        self.assertIsNone(told_apart(band, Band((("bob", LOOP),))))
        self.assertIn(told_apart(band, band.showing(("a",))), ([("a", None)], [("a", "ann")]))
        shows = Band((("ann", LOOP),), (), ("a",))
        self.assertIn(told_apart(shows, Band((("bob", LOOP),), (), ("a",))), ([("a", "ann")], [("a", "bob")]))
        self.assertEqual(told_apart(shows, Band((("ann", LOOP), ("bob", LOOP)), (), ("a",))), [("a", "bob")])
        self.assertIsNone(told_apart(shows, Band((("bob", STILL), ("ann", LOOP)), (), ("a",))))

    def test_long_ones(self):
        fives = Machine(5, tuple((at, "a", (at + 1) % 5) for at in range(5)), (0,))
        fours = Machine(4, tuple((at, "a", (at + 1) % 4) for at in range(4)), (0,))
        self.assertEqual(told_apart(Band((("ann", fives), ("bob", fours))), Band((("ann", fives),))), [("a", None)] * 4)
        # 4 and 5 lines in any number make all numbers but 1, 2, 3, 6, 7 and 11.
        all_but_7 = Machine(5, ((0, "a", 1), (1, "a", 2), (2, "a", 3), (3, "a", 4), (4, "a", 4)), (0, 4))
        log = told_apart(Band((("ann", fives), ("bob", fours))), Band((("ann", all_but_7),)))
        self.assertEqual(log, [("a", None)] * 6)

    def test_great_bands(self):
        chance = random.Random("apart")
        machines = [
            Machine(5, tuple((at, sign, chance.randrange(5)) for at in range(5) for sign in "abcdefgh"), (2,))
            for _ in range(3)
        ]
        writers = tuple(zip(("ann", "bob", "cid"), machines))
        band = Band(writers, (("ann", "bob"),))
        self.assertIsNone(told_apart(band, Band(writers[::-1], (("ann", "bob"),))))
        self.assertIsNone(told_apart(band, Band(tuple(zip(("x", "y", "z"), machines)), (("x", "y"),))))
        log = told_apart(band, Band(writers))
        self.check_apart(band, Band(writers), log)


class Kept(unittest.TestCase):
    def test_by_name(self):
        self.assertEqual(len(first_doubt(band=BAND)[0]), 3)
        self.assertIs(is_sure(band=BAND), False)
        self.assertEqual(doubtful_signs(band=BAND), ["note"])
        self.assertIsNone(open_for(band=BAND))
        self.assertEqual(len(open_ring(band=BAND)), 2)
        self.assertEqual(least_lots(band=BAND), [("note",)])
        self.assertIsNone(told_apart(other=BAND, band=BAND))

    def test_told_lists_are_new(self):
        for call in (first_doubt, doubtful_signs, open_ring, least_lots):
            check_new(self, call, BAND)
        check_new(self, told_apart, BAND, NO_LOG)
        check_new(self, told_apart, BAND, Band((("ann", PLAIN),)))

    def test_bands_stay_and_answers_too(self):
        for band in ONWARD[:10] + ROUND[:10]:
            for call in (first_doubt, is_sure, doubtful_signs, open_for, open_ring, least_lots):
                self.assertEqual(check_kept(self, call, band), call(band))
            self.assertEqual(check_kept(self, told_apart, band, BAND), told_apart(band, BAND))
        self.assertEqual(count(BAND, first_doubt(BAND)[0]), 2)


if __name__ == "__main__":
    unittest.main()
