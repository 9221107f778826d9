"""Bands: promises [8] and [9]."""

import itertools
import unittest
from unittest import mock

from helpers import check_error, no_tuples, no_words, others

from whoselines.bands import Band
from whoselines.machines import Machine

PLAIN = Machine(2, ((0, "open", 1), (1, "note", 1), (1, "shut", 0)), (0,))
SHORT = Machine(2, ((0, "note", 1),), (0, 1))
STILL = Machine(1, (), (0,))
WRITERS = (("bob", SHORT), ("ann", PLAIN), ("cid", STILL))


class Make(unittest.TestCase):
    def test_parts_are_told(self):
        band = Band(WRITERS, (("bob", "ann"), ("ann", "cid")), ("shut", "note"))
        self.assertEqual(band.names(), ("bob", "ann", "cid"))
        self.assertEqual([band.machine(name) for name in band.names()], [SHORT, PLAIN, STILL])
        self.assertEqual(band.barred(), (("ann", "cid"), ("bob", "ann")))
        self.assertEqual(band.shown(), ("note", "shut"))
        self.assertEqual(band.signs(), ["note", "open", "shut"])

    def test_kinds_of_the_parts(self):
        band = Band(WRITERS, (("bob", "ann"),), ("note",))
        self.assertIs(type(band.names()), tuple)
        self.assertIs(type(band.machine("ann")), Machine)
        self.assertIs(type(band.barred()), tuple)
        self.assertIs(type(band.barred()[0]), tuple)
        self.assertIs(type(band.shown()), tuple)
        self.assertIs(type(band.signs()), list)

    def test_defaults(self):
        band = Band((("ann", PLAIN),))
        self.assertEqual((band.names(), band.barred(), band.shown()), (("ann",), (), ()))
        self.assertEqual(Band(writers=WRITERS), Band(WRITERS, (), ()))
        self.assertEqual(Band(WRITERS, shown=("a",)), Band(WRITERS, (), ("a",)))

    def test_by_name(self):
        band = Band(shown=("note",), writers=WRITERS, barred=(("ann", "bob"),))
        self.assertEqual(band, Band(WRITERS, (("ann", "bob"),), ("note",)))

    def test_order_of_names_is_that_of_the_writers(self):
        for writers in itertools.permutations(WRITERS):
            band = Band(writers)
            self.assertEqual(band.names(), tuple(name for name, _ in writers))
            for name, machine in writers:
                self.assertEqual(band.machine(name), machine)

    def test_barred_and_shown_in_any_order(self):
        pairs = (("ann", "ann"), ("ann", "bob"), ("bob", "ann"), ("cid", "ann"))
        for barred in itertools.permutations(pairs):
            self.assertEqual(Band(WRITERS, barred).barred(), pairs)
        for shown in itertools.permutations(("a", "aa", "b")):
            self.assertEqual(Band(WRITERS, (), shown).shown(), ("a", "aa", "b"))

    def test_all_pairs_barred(self):
        pairs = tuple(itertools.product(("ann", "bob", "cid"), repeat=2))
        self.assertEqual(Band(WRITERS, pairs[::-1]).barred(), pairs)
        self.assertEqual(Band((("ann", STILL),), (("ann", "ann"),)).barred(), (("ann", "ann"),))

    def test_shown_signs_need_no_arrow(self):
        band = Band(WRITERS, (), ("other",))
        self.assertEqual(band.shown(), ("other",))
        self.assertEqual(band.signs(), ["note", "open", "shut"])

    def test_many_shown_signs(self):
        signs = tuple(sorted(a + b for a, b in itertools.product("abcdefghijklmnopqrst", "abcdefghijklmno")))
        self.assertEqual(len(signs), 300)
        self.assertEqual(Band(WRITERS, (), signs[::-1]).shown(), signs)

    def test_one_to_three_writers(self):
        for many in (1, 2, 3):
            self.assertEqual(len(Band(WRITERS[:many]).names()), many)

    def test_writers_with_one_machine(self):
        band = Band((("ann", SHORT), ("bob", SHORT)))
        self.assertEqual(band.machine("ann"), band.machine("bob"))
        self.assertEqual(band.signs(), ["note"])

    def test_names_may_be_signs(self):
        band = Band((("note", SHORT), ("open", PLAIN)), (("note", "note"),), ("open",))
        self.assertEqual(band.machine("note"), SHORT)
        self.assertEqual((band.barred(), band.shown()), ((("note", "note"),), ("open",)))


class MakeWrong(unittest.TestCase):
    def test_writers(self):
        for writers in no_tuples() + [()]:
            check_error(self, "NoWriter", Band, writers, field=0)

    def test_item_is_no_writer(self):
        wrong = no_tuples() + [
            (), ("ann",), ("ann", SHORT, SHORT), (SHORT, "ann"), (SHORT,), ("ann", "ann"), ["ann", SHORT],
            (("ann", SHORT),), ("ann", Machine), ("ann", (2, (), ())), ("ann", [SHORT]),
        ]
        wrong += [("ann", value) for value in others()] + [(value, SHORT) for value in no_words()]
        for item in wrong:
            check_error(self, "NoWriter", Band, (item,), field=0)
            check_error(self, "NoWriter", Band, (("bob", SHORT), item, item), field=1)
            check_error(self, "NoWriter", Band, WRITERS[:2] + (item,), field=2)
            check_error(self, "NoWriter", Band, WRITERS + (item,), field=3)

    def test_name_stood_before(self):
        check_error(self, "NoWriter", Band, (("ann", SHORT), ("ann", SHORT)), field=1)
        check_error(self, "NoWriter", Band, (("ann", SHORT), ("ann", PLAIN)), field=1)
        check_error(self, "NoWriter", Band, (("ann", SHORT), ("bob", PLAIN), ("ann", PLAIN)), field=2)

    def test_four_writers(self):
        check_error(self, "NoWriter", Band, WRITERS + (("dan", SHORT),), field=3)
        check_error(self, "NoWriter", Band, WRITERS * 100, field=3)
        check_error(self, "NoWriter", Band, (("ann", SHORT), None) + WRITERS, field=1)

    def test_barred(self):
        wrong = [
            (("ann", "dan"),), (("dan", "ann"),), (("ann", "bob"), ("ann", "bob")), ("ann", "bob"), (("ann",),),
            (("ann", "bob", "cid"),), ((),), (["ann", "bob"],), [("ann", "bob")], "ann", (("ann", "bob"), None),
            ((("ann",), "bob"),), (("ann", "note"),), (("ann", "bob"), ("bob", "bob"), ("ann", "bob")),
        ]
        wrong += [(("ann", value),) for value in no_words()] + [((value, "ann"),) for value in no_words()]
        wrong += [(value,) for value in no_tuples()] + no_tuples()
        for barred in wrong:
            check_error(self, "NoBarred", Band, WRITERS, barred)
            check_error(self, "NoBarred", Band, WRITERS, barred=barred, shown=("note",))

    def test_shown(self):
        wrong = [("note", "note"), ("a", "b", "a"), (("a",),), (("a", "b"),), (["a"],)]
        wrong += [(value,) for value in no_words()] + [("a", value) for value in no_words()] + no_tuples()
        for shown in wrong:
            check_error(self, "NoShown", Band, WRITERS, (), shown)
            check_error(self, "NoShown", Band, WRITERS, shown=shown)

    def test_order_of_the_errors(self):
        check_error(self, "NoWriter", Band, None, None, None, field=0)
        check_error(self, "NoWriter", Band, WRITERS + (None,), None, None, field=3)
        check_error(self, "NoWriter", Band, shown=None, barred=None, writers=(), field=0)
        check_error(self, "NoBarred", Band, WRITERS, None, None)
        check_error(self, "NoBarred", Band, shown=("a", "a"), barred=(("ann", "dan"),), writers=WRITERS)


class Told(unittest.TestCase):
    def test_machine_of_a_name(self):
        band = Band(WRITERS[:2])
        self.assertEqual(band.machine(name="ann"), PLAIN)
        for name in ["cid", "an", "anna", "note", "Ann"] + no_words():
            check_error(self, "NoName", band.machine, name)
        self.assertEqual(band, Band(WRITERS[:2]))

    def test_signs_of_all_machines_once(self):
        one = Machine(2, ((1, "b", 0), (0, "aa", 1)))
        two = Machine(3, ((2, "a", 0), (0, "aa", 1), (1, "c", 2)), (0,))
        self.assertEqual(Band((("x", two), ("y", one))).signs(), ["a", "aa", "b", "c"])
        self.assertEqual(Band((("x", one), ("y", two))).signs(), ["a", "aa", "b", "c"])
        self.assertEqual(Band((("x", STILL),)).signs(), [])

    def test_told_lists_are_new(self):
        band = Band(WRITERS)
        for _ in range(3):
            told = band.signs()
            self.assertEqual(told, ["note", "open", "shut"])
            self.assertIsNot(told, band.signs())
            told.append("more")
            band.machine("ann").signs().append("more")
        self.assertEqual(band.machine("ann").signs(), ["note", "open", "shut"])

    def test_told_twice_alike(self):
        band = Band(WRITERS, (("bob", "bob"), ("ann", "cid")), ("shut", "note"))
        for _ in range(2):
            self.assertEqual(band.names(), ("bob", "ann", "cid"))
            self.assertEqual(band.barred(), (("ann", "cid"), ("bob", "bob")))
            self.assertEqual(band.shown(), ("note", "shut"))


class Showing(unittest.TestCase):
    def test_more_signs(self):
        band = Band(WRITERS, (("ann", "bob"),), ("note",))
        more = band.showing(("shut", "aa"))
        self.assertIs(type(more), Band)
        self.assertEqual(more, Band(WRITERS, (("ann", "bob"),), ("aa", "note", "shut")))
        self.assertEqual(more.shown(), ("aa", "note", "shut"))
        self.assertEqual(more.names(), band.names())
        self.assertEqual(more.barred(), band.barred())
        self.assertEqual(band.shown(), ("note",))

    def test_signs_that_are_shown_already(self):
        band = Band(WRITERS, (), ("note", "open"))
        self.assertEqual(band.showing(("open", "note")), band)
        self.assertEqual(band.showing(("open", "shut")).shown(), ("note", "open", "shut"))

    def test_no_signs(self):
        band = Band(WRITERS, (), ("note",))
        self.assertEqual(band.showing(()), band)
        self.assertEqual(Band(WRITERS).showing(signs=()).shown(), ())

    def test_again(self):
        band = Band(WRITERS).showing(("b",)).showing(("a",))
        self.assertEqual(band, Band(WRITERS).showing(("a", "b")))

    def test_more_than_300(self):
        signs = tuple(sorted(a + b for a, b in itertools.product("abcdefghijklmnopqrstuvwxyz", repeat=2)))
        band = Band(WRITERS, (), signs[:300]).showing(signs[300:600])
        self.assertEqual(band.shown(), signs[:600])
        self.assertEqual(band.showing(("zz",)).shown(), signs[:600] + ("zz",))

    def test_no_shown(self):
        band = Band(WRITERS, (), ("note",))
        wrong = [("a", "a"), (("a",),), (["a"],), ({},), ("note", "note")] + no_tuples()
        for signs in wrong + [(value,) for value in no_words()]:
            check_error(self, "NoShown", band.showing, signs)
        self.assertEqual(band, Band(WRITERS, (), ("note",)))


class Equal(unittest.TestCase):
    def test_in_any_order(self):
        band = Band(WRITERS, (("ann", "bob"), ("bob", "ann")), ("a", "b"))
        other = Band(WRITERS, (("bob", "ann"), ("ann", "bob")), ("b", "a"))
        self.assertIs(band == other, True)
        self.assertIs(band != other, False)

    def test_machines_that_are_equal(self):
        again = Machine(2, ((1, "shut", 0), (1, "note", 1), (0, "open", 1)), (0,))
        self.assertIs(Band((("ann", again),)) == Band((("ann", PLAIN),)), True)

    def test_unlike(self):
        band = Band(WRITERS[:2], (("ann", "bob"),), ("note",))
        unlike = [
            Band(WRITERS[1::-1], (("ann", "bob"),), ("note",)),
            Band(WRITERS, (("ann", "bob"),), ("note",)),
            Band(WRITERS[:2], (("bob", "ann"),), ("note",)),
            Band(WRITERS[:2], (("ann", "bob"), ("bob", "bob")), ("note",)),
            Band(WRITERS[:2], (), ("note",)),
            Band(WRITERS[:2], (("ann", "bob"),), ("open",)),
            Band(WRITERS[:2], (("ann", "bob"),), ("note", "open")),
            Band(WRITERS[:2], (("ann", "bob"),)),
            Band((("bob", PLAIN), ("ann", PLAIN)), (("ann", "bob"),), ("note",)),
            Band((("bob", PLAIN), ("ann", SHORT)), (("ann", "bob"),), ("note",)),
            Band((("bob", SHORT), ("anna", PLAIN)), (), ("note",)),
        ]
        for other in unlike:
            self.assertIs(band == other, False)
            self.assertIs(other == band, False)
            self.assertIs(band != other, True)

    def test_machines_that_write_the_same_rows(self):
        self.assertIs(Band((("ann", STILL),)) == Band((("ann", Machine(2, (), (0,))),)), False)

    def test_nothing_else(self):
        band = Band(WRITERS)
        for other in others() + [WRITERS, (WRITERS, (), ()), PLAIN, 3, "ann", [], mock.ANY, Band]:
            self.assertIs(band == other, False)
            self.assertIs(band != other, True)
        self.assertIs(PLAIN == Band((("ann", PLAIN),)), False)


if __name__ == "__main__":
    unittest.main()
