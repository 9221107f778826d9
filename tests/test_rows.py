"""The rows of a machine: promise [7]."""

import unittest

from helpers import check_error, every_row, no_integers, some_machines, writes_slowly

from whoselines.machines import Machine
from whoselines.rows import row_apart, row_at, rows_count, shortest_row

SIGNS = ("a", "aa", "b")
LOOP = Machine(1, ((0, "b", 0), (0, "a", 0)), (0,))
BROAD = Machine(
    5,
    tuple((state, sign, (state + 1) % 5) for state in range(5) for sign in "hgfedcba"),
    (0, 1, 2, 3, 4),
)
NEVER = (Machine(1), Machine(5), Machine(1, ((0, "a", 0),)), Machine(2, ((1, "a", 1),), (1,)))


def written(machine, length):
    return [row for row in every_row(SIGNS, length) if writes_slowly(machine, row)]


class Count(unittest.TestCase):
    def test_small(self):
        machine = Machine(2, ((0, "open", 1), (1, "note", 1), (1, "shut", 0)), (0,))
        self.assertEqual([rows_count(machine, length) for length in range(7)], [1, 0, 1, 1, 2, 3, 5])
        self.assertIs(type(rows_count(machine, 4)), int)

    def test_by_name(self):
        self.assertEqual(rows_count(length=3, machine=LOOP), 8)

    def test_empty_row(self):
        self.assertEqual(rows_count(Machine(1, (), (0,)), 0), 1)
        self.assertEqual(rows_count(Machine(2, (), (1,)), 0), 0)
        self.assertEqual(rows_count(Machine(1, (), (0,)), 1), 0)

    def test_great_counts(self):
        self.assertEqual(rows_count(LOOP, 200), 2 ** 200)
        self.assertEqual(rows_count(BROAD, 200), 8 ** 200)
        self.assertEqual(rows_count(LOOP, 199), 2 ** 199)

    def test_no_row_is_written(self):
        for machine in NEVER:
            for length in (0, 1, 5, 200):
                self.assertEqual(rows_count(machine, length), 0)

    def test_against_all_rows(self):
        for machine in some_machines(80):
            for length in range(6):
                self.assertEqual(rows_count(machine, length), len(written(machine, length)))

    def test_no_length(self):
        for length in [-1, 201, 10 ** 59, -10 ** 59] + no_integers():
            check_error(self, "NoLength", rows_count, LOOP, length)


class At(unittest.TestCase):
    def test_order_of_lists_of_strings(self):
        machine = Machine(2, ((0, "b", 1), (0, "ab", 1), (0, "a", 0), (1, "a", 1)), (1,))
        told = [row_at(machine, 2, number) for number in range(rows_count(machine, 2))]
        self.assertEqual(told, [["a", "ab"], ["a", "b"], ["ab", "a"], ["b", "a"]])

    def test_kinds_and_names(self):
        self.assertEqual(row_at(number=2, machine=LOOP, length=2), ["b", "a"])
        self.assertIs(type(row_at(LOOP, 2, 0)), list)

    def test_empty_row(self):
        self.assertEqual(row_at(LOOP, 0, 0), [])

    def test_first_and_last(self):
        self.assertEqual(row_at(LOOP, 200, 0), ["a"] * 200)
        self.assertEqual(row_at(LOOP, 200, 2 ** 200 - 1), ["b"] * 200)
        self.assertEqual(row_at(LOOP, 200, 2 ** 199), ["b"] + ["a"] * 199)
        self.assertEqual(row_at(BROAD, 200, 0), ["a"] * 200)
        self.assertEqual(row_at(BROAD, 200, 8 ** 200 - 1), ["h"] * 200)

    def test_against_all_rows(self):
        for machine in some_machines(80):
            for length in range(6):
                rows = written(machine, length)
                self.assertEqual([row_at(machine, length, number) for number in range(len(rows))], rows)
                check_error(self, "NoNumber", row_at, machine, length, len(rows))

    def test_new_list_each_time(self):
        for _ in range(2):
            told = row_at(LOOP, 3, 5)
            self.assertEqual(told, ["b", "a", "b"])
            told.append("more")

    def test_no_length(self):
        for length in [-1, 201, 10 ** 59] + no_integers():
            check_error(self, "NoLength", row_at, LOOP, length, 0)

    def test_no_number(self):
        for number in [-1, 4, 5, 10 ** 59, -10 ** 59] + no_integers():
            check_error(self, "NoNumber", row_at, LOOP, 2, number)
        for machine in NEVER:
            for number in (0, 1, -1, False):
                check_error(self, "NoNumber", row_at, machine, 1, number)
        check_error(self, "NoNumber", row_at, LOOP, 0, 1)
        check_error(self, "NoNumber", row_at, LOOP, 200, 2 ** 200)
        check_error(self, "NoNumber", row_at, LOOP, 2, True)

    def test_length_is_checked_first(self):
        check_error(self, "NoLength", row_at, LOOP, -1, -1)
        check_error(self, "NoLength", row_at, LOOP, True, True)
        check_error(self, "NoLength", row_at, number=None, length=None, machine=LOOP)


class Shortest(unittest.TestCase):
    def test_small(self):
        machine = Machine(3, ((0, "b", 1), (0, "c", 2), (1, "a", 2), (2, "a", 1)), (1, 2))
        self.assertEqual(shortest_row(machine), ["b"])
        self.assertEqual(shortest_row(machine=Machine(2, ((0, "b", 1), (0, "ab", 1)), (1,))), ["ab"])

    def test_shorter_goes_before_smaller(self):
        machine = Machine(3, ((0, "a", 1), (1, "a", 2), (0, "z", 2)), (2,))
        self.assertEqual(shortest_row(machine), ["z"])

    def test_empty_row(self):
        self.assertEqual(shortest_row(LOOP), [])
        self.assertEqual(shortest_row(Machine(1, (), (0,))), [])

    def test_longest_of_the_shortest(self):
        machine = Machine(5, tuple((state, "a", state + 1) for state in range(4)), (4,))
        self.assertEqual(shortest_row(machine), ["a"] * 4)

    def test_none(self):
        for machine in NEVER:
            self.assertIsNone(shortest_row(machine))

    def test_against_all_rows(self):
        for machine in some_machines(150):
            rows = [row for length in range(4) for row in written(machine, length)]
            self.assertEqual(shortest_row(machine), rows[0] if rows else None)

    def test_new_list_each_time(self):
        machine = Machine(2, ((0, "a", 1),), (1,))
        for _ in range(2):
            told = shortest_row(machine)
            self.assertEqual(told, ["a"])
            told.append("more")


class Apart(unittest.TestCase):
    def test_small(self):
        one = Machine(2, ((0, "a", 1), (1, "b", 0)), (0,))
        two = Machine(2, ((0, "a", 1), (1, "b", 0), (1, "a", 0)), (0,))
        self.assertEqual(row_apart(one, two), ["a", "a"])
        self.assertEqual(row_apart(other=one, machine=two), ["a", "a"])

    def test_empty_row(self):
        self.assertEqual(row_apart(Machine(1, (), (0,)), Machine(1)), [])
        self.assertEqual(row_apart(Machine(1), LOOP), [])

    def test_same_rows_though_parts_differ(self):
        self.assertIsNone(row_apart(LOOP, LOOP))
        twice = Machine(2, ((0, "a", 1), (0, "b", 1), (1, "a", 0), (1, "b", 0)), (0, 1))
        self.assertIsNone(row_apart(LOOP, twice))
        self.assertIsNone(row_apart(Machine(2, ((0, "z", 1),), (0,)), Machine(1, (), (0,))))
        for one in NEVER:
            for two in NEVER:
                self.assertIsNone(row_apart(one, two))

    def test_signs_of_one_alone(self):
        one = Machine(1, ((0, "a", 0),), (0,))
        self.assertEqual(row_apart(one, LOOP), ["b"])
        self.assertEqual(row_apart(LOOP, one), ["b"])
        self.assertEqual(row_apart(Machine(1, ((0, "z", 0),), (0,)), one), ["a"])

    def test_one_that_has_no_state_left(self):
        one = Machine(2, ((0, "a", 1),), (1,))
        two = Machine(5, tuple((state, "a", state + 1) for state in range(4)), (1, 4))
        self.assertEqual(row_apart(one, two), ["a"] * 4)
        self.assertEqual(row_apart(two, one), ["a"] * 4)

    def test_long_row(self):
        four = Machine(4, tuple((state, "a", (state + 1) % 4) for state in range(4)), (3,))
        five = Machine(5, tuple((state, "a", (state + 1) % 5) for state in range(5)), (3,))
        self.assertEqual(row_apart(four, five), ["a"] * 7)
        ends_four = Machine(4, tuple((state, "a", (state + 1) % 4) for state in range(4)), (0, 1, 2, 3))
        ends_five = Machine(5, tuple((state, "a", (state + 1) % 5) for state in range(5)), (0, 1, 2, 3))
        self.assertEqual(row_apart(ends_four, ends_five), ["a"] * 4)

    def test_against_all_rows(self):
        machines = some_machines(40, sizes=(1, 2))
        # With a state for what leads nowhere each has three at most, so four signs tell any two of them apart.
        rows = [row for length in range(6) for row in every_row(SIGNS, length)]
        tables = [[writes_slowly(machine, row) for row in rows] for machine in machines]
        for machine, table in zip(machines, tables):
            for other, other_table in zip(machines, tables):
                apart = [row for row, one, two in zip(rows, table, other_table) if one != two]
                self.assertEqual(row_apart(machine, other), apart[0] if apart else None)

    def test_new_list_each_time(self):
        one = Machine(2, ((0, "a", 1),), (1,))
        for _ in range(2):
            told = row_apart(one, Machine(1))
            self.assertEqual(told, ["a"])
            told.append("more")


if __name__ == "__main__":
    unittest.main()
