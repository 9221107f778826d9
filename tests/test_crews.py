"""Writers of one kind: promises [19] and [20]."""

import random
import unittest

import slow
from helpers import check_error, check_kept, check_new, no_integers, no_lists, no_words, others, some_machines

from whoselines.crews import crew, crews_count, fewest_writers, is_crew
from whoselines.machines import Machine

PLAIN = Machine(2, ((0, "open", 1), (1, "note", 1), (1, "shut", 0)), (0,))
LOOP = Machine(1, ((0, "a", 0),), (0,))
ONCE = Machine(2, ((0, "a", 1),), (1,))
PAIR = Machine(3, ((0, "a", 1), (1, "b", 2)), (2,))
NEVER = Machine(1, ((0, "a", 0),))
MACHINES = some_machines(50, signs=("a", "b"), sizes=(1, 2, 3, 4)) + [PLAIN, LOOP, ONCE, PAIR, NEVER]


def some_rows(machine, most=6):
    chance = random.Random(f"{machine.arrows()}")
    signs = machine.signs() * 4 + ["a", "b"]
    return [[chance.choice(signs) for _ in range(length)] for length in range(most + 1) for _ in range(2)]


def trials():
    for machine in MACHINES:
        for row in some_rows(machine):
            yield machine, row, slow.crews(machine, row)


def is_well_numbered(numbers):
    return all(number <= max(numbers[:at], default=-1) + 1 for at, number in enumerate(numbers))


class Trials(unittest.TestCase):
    def test_fewest_writers(self):
        told = set()
        for machine, row, crews in trials():
            fewest = min((len(set(numbers)) for numbers in crews), default=None)
            self.assertEqual(fewest_writers(machine, row), fewest)
            told.add(fewest)
        self.assertLessEqual({None, 0, 1, 2, 3, 4}, told)

    def test_crew(self):
        for machine, row, crews in trials():
            numbers = crew(machine, row)
            if not crews:
                self.assertIsNone(numbers)
            else:
                self.assertIs(type(numbers), list)
                self.assertIn(numbers, crews)
                self.assertEqual(len(set(numbers)), fewest_writers(machine, row))

    def test_crews_count(self):
        for machine, row, crews in trials():
            self.assertEqual(crews_count(machine, row), len(crews))

    def test_is_crew(self):
        for machine, row, crews in trials():
            if len(row) <= 5:
                for numbers in slow.shares(len(row)):
                    self.assertIs(is_crew(machine, row, numbers), numbers in crews)


class Edges(unittest.TestCase):
    def test_the_empty_row(self):
        for machine in MACHINES:
            self.assertEqual(fewest_writers(machine, []), 0)
            self.assertEqual(crew(machine, []), [])
            self.assertEqual(crews_count(machine, []), 1)
            self.assertIs(is_crew(machine, [], []), True)
            self.assertIs(is_crew(machine, [], [0]), False)

    def test_24_and_25_signs(self):
        self.assertEqual(fewest_writers(ONCE, ["a"] * 24), 24)
        self.assertEqual(crew(ONCE, ["a"] * 24), list(range(24)))
        self.assertEqual(crews_count(ONCE, ["a"] * 24), 1)
        self.assertEqual(fewest_writers(LOOP, ["a"] * 24), 1)
        self.assertEqual(crew(LOOP, ["a"] * 24), [0] * 24)
        # All ways to put 24 lines into parts.
        self.assertEqual(crews_count(LOOP, ["a"] * 24), 445958869294805289)
        for call in (fewest_writers, crew, crews_count):
            for machine in (LOOP, NEVER, ONCE):
                for row in (["a"] * 25, ["other"] * 25, ["a"] * 300):
                    check_error(self, "TooLong", call, machine, row)
                    check_error(self, "TooLong", call, row=row, machine=machine)
        self.assertIs(is_crew(LOOP, ["a"] * 25, [0] * 25), True)
        self.assertIs(is_crew(ONCE, ["a"] * 300, list(range(300))), True)
        self.assertIs(is_crew(ONCE, ["a"] * 300, list(range(299)) + [298]), False)

    def test_rows_that_no_number_of_writers_can_have_written(self):
        for machine, row in ((NEVER, ["a"]), (PAIR, ["b", "a"]), (PAIR, ["a"]), (LOOP, ["a", "b"]), (PLAIN, ["note"])):
            self.assertIsNone(fewest_writers(machine, row))
            self.assertIsNone(crew(machine, row))
            self.assertEqual(crews_count(machine, row), 0)
            self.assertIs(is_crew(machine, row, [0] * len(row)), False)

    def test_each_writer_has_a_line(self):
        # The end 0 does not make writers of no line.
        both = Machine(2, ((0, "a", 1),), (0, 1))
        self.assertEqual((fewest_writers(both, ["a"]), crews_count(both, ["a"])), (1, 1))
        self.assertEqual(fewest_writers(both, ["a"] * 3), 3)

    def test_fewest_of_several(self):
        row = ["open", "open", "note", "shut", "open", "shut", "shut"]
        self.assertEqual(fewest_writers(PLAIN, row), 2)
        numbers = crew(PLAIN, row)
        self.assertIs(is_crew(PLAIN, row, numbers), True)
        self.assertEqual(len(set(numbers)), 2)
        self.assertEqual(crews_count(PLAIN, row), len(slow.crews(PLAIN, row)))
        self.assertEqual(fewest_writers(PAIR, ["a", "a", "b", "b"]), 2)
        self.assertEqual(crews_count(PAIR, ["a", "a", "b", "b"]), 2)
        self.assertEqual(crews_count(PAIR, ["a"] * 12 + ["b"] * 12), 479001600)

    def test_great_machines(self):
        chance = random.Random("great")
        for _ in range(3):
            machine = Machine(
                5, tuple((at, sign, chance.randrange(5)) for at in range(5) for sign in "abcdefgh"), (2, 4))
            row = [chance.choice("abcdefgh") for _ in range(24)]
            numbers = crew(machine, row)
            if numbers is None:
                self.assertEqual((fewest_writers(machine, row), crews_count(machine, row)), (None, 0))
            else:
                self.assertIs(is_crew(machine, row, numbers), True)
                self.assertEqual(len(set(numbers)), fewest_writers(machine, row))
                self.assertGreater(crews_count(machine, row), 0)


class IsCrew(unittest.TestCase):
    def test_numbers_stand_in_order(self):
        row = ["a"] * 4
        for numbers in ([0, 0, 0, 0], [0, 1, 2, 3], [0, 1, 0, 2], [0, 1, 1, 0]):
            self.assertIs(is_crew(LOOP, row, numbers), True)
        for numbers in ([1, 0, 0, 0], [0, 2, 1, 0], [1, 1, 1, 1], [0, 0, 2, 1], [0, 1, 3, 2], [-1, 0, 0, 0], [0, -1, 1, 1]):
            self.assertIs(is_crew(LOOP, row, numbers), False)

    def test_each_writes_a_row(self):
        self.assertIs(is_crew(PAIR, ["a", "a", "b", "b"], [0, 1, 1, 0]), True)
        self.assertIs(is_crew(PAIR, ["a", "a", "b", "b"], [0, 1, 1, 1]), False)
        self.assertIs(is_crew(PAIR, ["a", "a", "b"], [0, 1, 1]), False)

    def test_as_many_as_signs(self):
        for many in (0, 1, 3, 300):
            self.assertIs(is_crew(LOOP, ["a"] * 2, [0] * many), False)

    def test_any_value(self):
        wrong = no_lists() + [(0, 0), "00", {0: 0, 1: 0}, [[0, 0]], range(2), iter([0, 0])]
        for value in no_integers() + others() + [-1, 2, 10 ** 59, -10 ** 59, 0.0, 1.0]:
            wrong += [[0, value], [value, 0], [value, value], [value]]
        for numbers in wrong:
            self.assertIs(is_crew(LOOP, ["a", "a"], numbers), False, repr(numbers)[:60])
            self.assertIs(is_crew(numbers=numbers, row=["a", "a"], machine=LOOP), False)
        self.assertIs(is_crew(LOOP, ["a"], [False]), False)
        self.assertIs(is_crew(LOOP, ["a", "a"], [0, True]), False)
        self.assertIs(is_crew(LOOP, ["a", "a"], [0, 1]), True)


class Wrong(unittest.TestCase):
    CALLS = ((fewest_writers, ()), (crew, ()), (crews_count, ()), (is_crew, ([],)), (is_crew, (None,)))

    def test_no_row(self):
        for call, more in self.CALLS:
            for row in no_lists():
                check_error(self, "NoRow", call, PLAIN, row, *more, field=0)
            for value in no_words():
                check_error(self, "NoRow", call, PLAIN, [value], *more, field=0)
                check_error(self, "NoRow", call, PLAIN, ["open", "x", value, value], *more, field=2)

    def test_no_row_ahead_of_too_long(self):
        for call, more in self.CALLS:
            check_error(self, "NoRow", call, PLAIN, ["open"] * 24 + [None], *more, field=24)
            check_error(self, "NoRow", call, PLAIN, ["open"] * 299 + [""], *more, field=299)
        check_error(self, "NoRow", crew, row=["a"] * 40 + [True], machine=PLAIN, field=40)
        check_error(self, "NoRow", is_crew, numbers=None, row=None, machine=PLAIN, field=0)

    def test_nothing_is_changed(self):
        row = ["open", ["open"], "shut"]
        for call, more in self.CALLS:
            check_error(self, "NoRow", call, PLAIN, row, *more, field=1)
            self.assertEqual(row, ["open", ["open"], "shut"])


class Kept(unittest.TestCase):
    ROW = ["open", "open", "note", "shut", "shut"]

    def test_by_name(self):
        self.assertEqual(fewest_writers(row=self.ROW, machine=PLAIN), 2)
        self.assertIs(is_crew(numbers=crew(row=self.ROW, machine=PLAIN), row=self.ROW, machine=PLAIN), True)
        self.assertEqual(crews_count(row=self.ROW, machine=PLAIN), 4)

    def test_arguments_stay(self):
        for call in (fewest_writers, crew, crews_count):
            check_kept(self, call, PLAIN, list(self.ROW))
        check_kept(self, is_crew, PLAIN, list(self.ROW), [0, 1, 1, 1, 0])
        check_kept(self, is_crew, PLAIN, list(self.ROW), [0, [1], {}, (), None])

    def test_told_lists_are_new(self):
        check_new(self, crew, PLAIN, self.ROW)
        check_new(self, crew, PLAIN, [])

    def test_told_twice_alike(self):
        for _ in range(2):
            self.assertEqual(fewest_writers(PLAIN, self.ROW), 2)
            self.assertEqual(crews_count(PLAIN, self.ROW), 4)


if __name__ == "__main__":
    unittest.main()
