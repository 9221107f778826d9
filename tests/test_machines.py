"""Machines: promises [5] and [6]."""

import itertools
import unittest
from unittest import mock

from helpers import (
    check_error, every_row, no_integers, no_lists, no_tuples, no_words, others, some_machines, writes_slowly,
)

from whoselines.machines import Machine

PLAIN = ((0, "note", 0), (0, "open", 1), (1, "note", 1), (1, "shut", 0))


def forty(more=()):
    """Forty arrows of five states, and those that are passed behind them."""
    signs = ("a", "b", "c", "d", "e", "f", "g", "h")
    return tuple((state, sign, (state + 1) % 5) for state in range(5) for sign in signs) + tuple(more)


class Make(unittest.TestCase):
    def test_parts_are_told(self):
        machine = Machine(2, PLAIN, (0,))
        self.assertEqual(machine.size(), 2)
        self.assertEqual(machine.arrows(), PLAIN)
        self.assertEqual(machine.ends(), (0,))
        self.assertEqual(machine.signs(), ["note", "open", "shut"])

    def test_kinds_of_the_parts(self):
        machine = Machine(2, PLAIN, (1, 0))
        self.assertIs(type(machine.size()), int)
        self.assertIs(type(machine.arrows()), tuple)
        self.assertTrue(all(type(arrow) is tuple for arrow in machine.arrows()))
        self.assertIs(type(machine.ends()), tuple)
        self.assertIs(type(machine.signs()), list)

    def test_any_order_is_told_ascending(self):
        for arrows in itertools.permutations(PLAIN):
            for ends in itertools.permutations((0, 2, 4)):
                machine = Machine(5, arrows, ends)
                self.assertEqual(machine.arrows(), PLAIN)
                self.assertEqual(machine.ends(), (0, 2, 4))

    def test_arrows_ascend_by_state_then_sign(self):
        machine = Machine(3, ((2, "a", 0), (0, "b", 0), (1, "a", 2), (0, "aa", 2), (0, "a", 2)))
        told = ((0, "a", 2), (0, "aa", 2), (0, "b", 0), (1, "a", 2), (2, "a", 0))
        self.assertEqual(machine.arrows(), told)
        self.assertEqual(machine.signs(), ["a", "aa", "b"])

    def test_by_name(self):
        self.assertEqual(Machine(ends=(0,), size=2, arrows=PLAIN), Machine(2, PLAIN, (0,)))
        self.assertEqual(Machine(2, ends=(0,)), Machine(2, (), (0,)))
        self.assertEqual(Machine(size=2, arrows=PLAIN), Machine(2, PLAIN, ()))

    def test_defaults(self):
        machine = Machine(3)
        self.assertEqual((machine.size(), machine.arrows(), machine.ends(), machine.signs()), (3, (), (), []))

    def test_sizes(self):
        for size in range(1, 6):
            machine = Machine(size, ((size - 1, "a", 0), (0, "b", size - 1)), (size - 1,))
            self.assertEqual(machine.size(), size)
            self.assertEqual(machine.ends(), (size - 1,))
            self.assertEqual(machine.step(size - 1, "a"), 0)

    def test_all_states_are_ends(self):
        self.assertEqual(Machine(5, (), (4, 3, 2, 1, 0)).ends(), (0, 1, 2, 3, 4))

    def test_forty_arrows(self):
        machine = Machine(5, forty())
        self.assertEqual(len(machine.arrows()), 40)
        self.assertEqual(machine.arrows(), forty())
        self.assertEqual(Machine(5, forty()[::-1]).arrows(), forty())

    def test_one_sign_from_each_state_and_one_state_by_each_sign(self):
        arrows = ((0, "a", 1), (0, "b", 1), (1, "a", 1), (1, "b", 1))
        self.assertEqual(Machine(2, arrows).arrows(), arrows)

    def test_longest_sign(self):
        self.assertEqual(Machine(1, ((0, "abcdefgh", 0),)).signs(), ["abcdefgh"])


class MakeWrong(unittest.TestCase):
    def test_size(self):
        for size in [0, 6, -1, 7, 10 ** 59, -10 ** 59] + no_integers():
            check_error(self, "NoSize", Machine, size)
            check_error(self, "NoSize", Machine, size, PLAIN, (0,))

    def test_arrows_are_no_tuple(self):
        for arrows in no_tuples():
            check_error(self, "NoArrow", Machine, 2, arrows, field=0)

    def test_item_is_no_arrow(self):
        wrong = no_tuples() + [
            (), (0,), (0, "a"), (0, "a", 1, 1), ((0, "a", 1),), ("a", 0, 1), (0, 1, "a"), [0, "a", 1],
        ]
        for item in wrong:
            check_error(self, "NoArrow", Machine, 2, (item,), field=0)
            check_error(self, "NoArrow", Machine, 2, PLAIN + (item,), field=4)
            check_error(self, "NoArrow", Machine, 2, PLAIN[:2] + (item, item) + PLAIN[2:], field=2)

    def test_states_of_an_arrow(self):
        for state in [2, 3, -1, 10 ** 59, (0,), [0]] + no_integers():
            check_error(self, "NoArrow", Machine, 2, ((0, "a", 0), (state, "b", 0)), field=1)
            check_error(self, "NoArrow", Machine, 2, ((0, "a", 0), (0, "b", state)), field=1)
        self.assertEqual(Machine(3, ((2, "b", 2),)).size(), 3)
        for size in range(1, 6):
            check_error(self, "NoArrow", Machine, size, ((size, "a", 0),), field=0)
            check_error(self, "NoArrow", Machine, size, ((0, "a", size),), field=0)

    def test_sign_of_an_arrow(self):
        for sign in no_words():
            check_error(self, "NoArrow", Machine, 2, ((0, "a", 0), (0, sign, 0)), field=1)

    def test_state_and_sign_stood_before(self):
        check_error(self, "NoArrow", Machine, 2, ((0, "a", 0), (0, "a", 1)), field=1)
        check_error(self, "NoArrow", Machine, 2, ((0, "a", 0), (0, "a", 0)), field=1)
        check_error(self, "NoArrow", Machine, 2, PLAIN + ((1, "shut", 1), (5, "a", 0)), field=4)

    def test_more_than_forty(self):
        for more in ((0, "i", 0), (0, "a", 0), None, (7, "a", 0), []):
            check_error(self, "NoArrow", Machine, 5, forty([more]), field=40)
            check_error(self, "NoArrow", Machine, 5, forty([more, more]), field=40)

    def test_an_earlier_one_is_told_before_the_41st(self):
        arrows = forty()[:39] + ((0, "a", 0), (4, "h", 0))
        check_error(self, "NoArrow", Machine, 5, arrows, field=39)
        check_error(self, "NoArrow", Machine, 5, (None,) + forty(), field=0)
        check_error(self, "NoArrow", Machine, 5, forty() * 7, field=40)

    def test_ends(self):
        wrong = [(2,), (-1,), (0, 2), (0, 0), (1, 0, 1), ((0,),), ([0],), ({},), ("0",), (0, None), (10 ** 59,)]
        wrong += [(value,) for value in no_integers()] + [(0, value) for value in no_integers()]
        for ends in wrong + no_tuples():
            check_error(self, "NoEnds", Machine, 2, PLAIN, ends)
            check_error(self, "NoEnds", Machine, 2, ends=ends)
        for size in range(1, 6):
            check_error(self, "NoEnds", Machine, size, (), (size,))

    def test_order_of_the_errors(self):
        check_error(self, "NoSize", Machine, 0, None, None)
        check_error(self, "NoSize", Machine, True, (None,), (0,))
        check_error(self, "NoArrow", Machine, 2, None, None, field=0)
        check_error(self, "NoArrow", Machine, 2, PLAIN + (None,), (0, 0), field=4)
        check_error(self, "NoArrow", Machine, ends=None, arrows=[], size=1, field=0)
        check_error(self, "NoEnds", Machine, 2, PLAIN, None)


class Told(unittest.TestCase):
    def test_told_lists_are_new(self):
        machine = Machine(2, PLAIN, (0,))
        for _ in range(3):
            told = machine.signs()
            self.assertEqual(told, ["note", "open", "shut"])
            self.assertIsNot(told, machine.signs())
            told.append("more")
            told[0] = 7
        self.assertEqual(machine, Machine(2, PLAIN, (0,)))

    def test_told_twice_alike(self):
        machine = Machine(2, PLAIN, (1, 0))
        for _ in range(2):
            self.assertEqual((machine.size(), machine.arrows(), machine.ends()), (2, PLAIN, (0, 1)))

    def test_each_sign_once(self):
        for machine in some_machines(60):
            told = machine.signs()
            self.assertEqual(told, sorted(set(arrow[1] for arrow in machine.arrows())))


class Step(unittest.TestCase):
    def test_step(self):
        machine = Machine(2, PLAIN, (0,))
        self.assertEqual(machine.step(0, "open"), 1)
        self.assertEqual(machine.step(1, "shut"), 0)
        self.assertEqual(machine.step(0, "note"), 0)
        self.assertIsNone(machine.step(0, "shut"))
        self.assertIsNone(machine.step(1, "open"))
        self.assertIsNone(machine.step(1, "other"))
        self.assertIs(type(machine.step(0, "note")), int)

    def test_by_name(self):
        self.assertEqual(Machine(2, PLAIN).step(sign="open", state=0), 1)

    def test_all_arrows(self):
        for machine in some_machines(60):
            targets = {arrow[:2]: arrow[2] for arrow in machine.arrows()}
            for state in range(machine.size()):
                for sign in ("a", "aa", "b", "c"):
                    self.assertEqual(machine.step(state, sign), targets.get((state, sign)))

    def test_no_state(self):
        for size in (1, 2, 5):
            machine = Machine(size, ((0, "a", 0),))
            for state in [-1, size, size + 1, 10 ** 59, -10 ** 59] + no_integers():
                check_error(self, "NoState", machine.step, state, "a")
            self.assertIsNone(machine.step(size - 1, "b"))

    def test_no_sign(self):
        machine = Machine(2, PLAIN)
        for sign in no_words():
            check_error(self, "NoSign", machine.step, 0, sign)

    def test_state_is_checked_first(self):
        machine = Machine(2, PLAIN)
        check_error(self, "NoState", machine.step, 2, "")
        check_error(self, "NoState", machine.step, True, None)
        check_error(self, "NoState", machine.step, sign=None, state=None)


class Writes(unittest.TestCase):
    def test_writes(self):
        machine = Machine(2, PLAIN, (0,))
        for row in ([], ["note"], ["open", "shut"], ["open", "note", "note", "shut", "note"]):
            self.assertIs(machine.writes(row), True)
        for row in (["open"], ["shut"], ["open", "open"], ["other"], ["open", "other", "shut"], ["note", "open"]):
            self.assertIs(machine.writes(row), False)

    def test_empty_row(self):
        self.assertIs(Machine(1, (), (0,)).writes([]), True)
        self.assertIs(Machine(1).writes([]), False)
        self.assertIs(Machine(2, ((0, "a", 1),), (1,)).writes([]), False)
        self.assertIs(Machine(5, (), (1, 2, 3, 4)).writes([]), False)

    def test_long_rows(self):
        machine = Machine(2, ((0, "a", 1), (1, "a", 0)), (0,))
        self.assertIs(machine.writes(["a"] * 300), True)
        self.assertIs(machine.writes(["a"] * 299), False)
        self.assertIs(machine.writes(["b"] + ["a"] * 299), False)

    def test_against_arrow_by_arrow(self):
        for machine in some_machines(40):
            for length in range(5):
                for row in every_row(("a", "aa", "b"), length):
                    self.assertIs(machine.writes(row), writes_slowly(machine, row))

    def test_by_name_and_row_is_left_alone(self):
        machine = Machine(2, PLAIN, (0,))
        row = ["open", "shut"]
        for _ in range(2):
            self.assertIs(machine.writes(row=row), True)
            self.assertEqual(row, ["open", "shut"])

    def test_no_row(self):
        machine = Machine(2, PLAIN, (0,))
        for value in no_lists():
            check_error(self, "NoRow", machine.writes, value, field=0)
        for value in no_words():
            check_error(self, "NoRow", machine.writes, [value], field=0)
            check_error(self, "NoRow", machine.writes, ["open", "note", value, value], field=2)
            # A word that leads nowhere does not hide an item that is none.
            check_error(self, "NoRow", machine.writes, ["shut", "shut", value], field=2)


class Equal(unittest.TestCase):
    def test_in_any_order(self):
        machine = Machine(3, PLAIN, (0, 2))
        for arrows in itertools.permutations(PLAIN):
            other = Machine(3, arrows, (2, 0))
            self.assertIs(machine == other, True)
            self.assertIs(machine != other, False)

    def test_unlike_parts(self):
        machine = Machine(2, PLAIN, (0,))
        unlike = [
            Machine(3, PLAIN, (0,)), Machine(2, PLAIN, (1,)), Machine(2, PLAIN, (0, 1)), Machine(2, PLAIN),
            Machine(2, PLAIN[1:], (0,)), Machine(2, ((0, "note", 1),) + PLAIN[1:], (0,)), Machine(2, (), (0,)),
            Machine(2, ((0, "nota", 0),) + PLAIN[1:], (0,)), Machine(2),
        ]
        for other in unlike:
            self.assertIs(machine == other, False)
            self.assertIs(other == machine, False)
            self.assertIs(machine != other, True)

    def test_same_rows_but_unlike_parts(self):
        self.assertIs(Machine(1, (), (0,)) == Machine(2, (), (0,)), False)
        self.assertIs(Machine(2, (), (0,)) == Machine(2, ((1, "a", 1),), (0,)), False)

    def test_nothing_else(self):
        machine = Machine(2, PLAIN, (0,))
        for other in others() + [2, "Machine", (2, PLAIN, (0,)), [2, PLAIN, (0,)], mock.ANY, Machine, machine.size]:
            self.assertIs(machine == other, False)
            self.assertIs(machine != other, True)

    def test_nothing_is_changed_by_errors(self):
        machine = Machine(2, PLAIN, (0,))
        check_error(self, "NoState", machine.step, 5, "note")
        check_error(self, "NoSign", machine.step, 0, "Note")
        check_error(self, "NoRow", machine.writes, ["note", 5], field=1)
        self.assertEqual(machine, Machine(2, PLAIN, (0,)))
        self.assertEqual((machine.size(), machine.arrows(), machine.ends()), (2, PLAIN, (0,)))


if __name__ == "__main__":
    unittest.main()
