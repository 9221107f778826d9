"""What the promises [11] to [20] stand on: walks, sets of indexes, weaves, twins and crowds."""

import itertools
import random
import unittest
from unittest import mock

import slow
from helpers import other_band, some_bands

from whoselines import crowds
from whoselines.bands import Band
from whoselines.doubts import told_apart
from whoselines.hits import hitting, indexes, least_hitting
from whoselines.machines import Machine
from whoselines.paths import led_to, longest_walks, shortest_walk, spread
from whoselines.twins import Twins
from whoselines.weaves import ascending, leading_on, log_weave, merged, standing_key, trimmed, weave_of

LINKS = {0: [1, 2], 1: [3], 2: [3, 4], 3: [5], 4: [5], 5: []}
LOOP = Machine(1, ((0, "a", 0),), (0,))


def nexts_of(links):
    return lambda node: {after: f"{node}{after}" for after in links[node]}


class Paths(unittest.TestCase):
    def test_spread(self):
        self.assertEqual(list(spread(LINKS, [2])), [2, 3, 4, 5])
        self.assertEqual(list(spread(LINKS, {4: True, 1: True})), [4, 1, 5, 3])
        self.assertEqual(spread(LINKS, []), {})

    def test_led_to(self):
        self.assertEqual(list(led_to(lambda node: [node // 2, node // 3], [7])), [7, 3, 2, 1, 0])
        self.assertEqual(led_to(nexts_of(LINKS), [5]), {5: True})
        self.assertEqual(led_to(nexts_of(LINKS), []), {})

    def test_shortest_walk(self):
        self.assertEqual(shortest_walk(nexts_of(LINKS), [0], lambda node: node == 5), ["01", "13", "35"])
        self.assertEqual(shortest_walk(nexts_of(LINKS), [0, 4], lambda node: node == 5), ["45"])
        self.assertIsNone(shortest_walk(nexts_of(LINKS), [0], lambda node: node == 0))
        self.assertIsNone(shortest_walk(nexts_of(LINKS), [], lambda node: True))

    def test_shortest_walk_back(self):
        ring = {0: [1], 1: [2, 1], 2: [0, 3], 3: [0]}
        self.assertEqual(shortest_walk(nexts_of(ring), [0], lambda node: node == 0), ["01", "12", "20"])
        self.assertEqual(shortest_walk(nexts_of(ring), [1], lambda node: node == 1), ["11"])
        self.assertEqual(shortest_walk(nexts_of(ring), [0], lambda node: node == 3), ["01", "12", "23"])

    def test_longest_walks(self):
        self.assertEqual(longest_walks(nexts_of(LINKS), [0]), ({0: 3, 1: 2, 2: 2, 3: 1, 4: 1, 5: 0}, None))
        self.assertEqual(longest_walks(nexts_of(LINKS), [4, 1, 4]), ({1: 2, 3: 1, 4: 1, 5: 0}, None))
        self.assertEqual(longest_walks(nexts_of(LINKS), []), ({}, None))

    def test_rings(self):
        for ring, on_it in (({0: [0]}, (0,)), ({0: [1, 2], 1: [3], 2: [3], 3: [4], 4: [1]}, (1, 3, 4))):
            ranks, again = longest_walks(nexts_of(ring), [0])
            self.assertIsNone(ranks)
            self.assertIn(again, on_it)

    def test_long_walks(self):
        links = {node: [node + 1] for node in range(50000)} | {50000: []}
        ranks, again = longest_walks(nexts_of(links), [0])
        self.assertEqual((ranks[0], again), (50000, None))
        self.assertEqual(len(shortest_walk(nexts_of(links), [0], lambda node: node == 50000)), 50000)


class Hits(unittest.TestCase):
    def test_trials(self):
        chance = random.Random("hits")
        for many in (0, 1, 3, 5):
            for _ in range(20):
                masks = [chance.randrange(1, 1 << many) for _ in range(chance.randrange(5))] if many else []
                found = [one for one in range(1 << many) if all(one & mask for mask in masks)]
                self.assertEqual(hitting(many, masks), found)
                least = [one for one in found if not any(one != less and one & less == less for less in found)]
                self.assertEqual(least_hitting(many, masks), least)

    def test_edges(self):
        self.assertEqual(hitting(0, []), [0])
        self.assertEqual(hitting(2, [0]), [])
        self.assertEqual((indexes(0), indexes(0b10110)), ((), (1, 2, 4)))


class Weaves(unittest.TestCase):
    def test_standings_are_all_that_are_reached(self):
        for band in some_bands(30):
            weave = weave_of(band)
            reached = slow.reached_from(band, slow.beginning(band))
            self.assertEqual(len(weave.standings), len(reached))
            self.assertEqual(set(weave.standings), set(reached))
            self.assertEqual(weave.standings[0], slow.beginning(band))
            for number, standing in enumerate(weave.standings):
                self.assertIs(number in weave.finals, slow.at_ends(band, standing))
                self.assertIs(number in leading_on(weave), slow.is_alive(band, standing))

    def test_moves(self):
        for band in some_bands(20):
            weave = weave_of(band)
            for number, standing in enumerate(weave.standings):
                found = {}
                for name, sign in itertools.product(band.names(), band.signs()):
                    behind = slow.step(band, standing, sign, name)
                    if behind is not None:
                        entry = (sign, name if sign in band.shown() else None)
                        found.setdefault(entry, []).append((name, weave.standings.index(behind)))
                self.assertEqual(weave.moves[number], found)

    def test_trimmed_and_merged(self):
        for band in some_bands(30):
            alive = trimmed(weave_of(band))
            self.assertTrue(all(slow.is_alive(band, standing) for standing in alive.standings))
            least = merged(alive)
            self.assertLessEqual(len(least.moves), len(alive.moves))
            self.assertEqual(len(merged(least).moves), len(least.moves))
            self.assertEqual(len(log_weave(band).moves) > 0, slow.is_alive(band, slow.beginning(band)))

    def test_ascending(self):
        for band in some_bands(20):
            weave = weave_of(band)
            other = ascending(weave)
            self.assertEqual(other.standings, sorted(weave.standings, key=slow.place))
            self.assertEqual(other.standings[0], slow.beginning(band))
            for number, standing in enumerate(other.standings):
                old = weave.standings.index(standing)
                self.assertEqual(number in other.finals, old in weave.finals)
                self.assertEqual(
                    [(entry, name, other.standings[behind])
                     for entry, lines in other.moves[number].items() for name, behind in lines],
                    [(entry, name, weave.standings[behind])
                     for entry, lines in weave.moves[old].items() for name, behind in lines])
        self.assertEqual(ascending(trimmed(weave_of(Band((("ann", Machine(1)),))))).standings, [])
        self.assertLess(standing_key(((0, 1), None)), standing_key(((0, 1), "a")))

    def test_last_names_count_where_they_bar(self):
        writers = (("ann", LOOP), ("bob", LOOP))
        self.assertEqual(len(weave_of(Band(writers)).standings), 3)
        self.assertEqual(len(log_weave(Band(writers)).moves), 1)
        self.assertEqual(len(log_weave(Band(writers, (("ann", "bob"),))).moves), 2)


class TwinsTest(unittest.TestCase):
    def test_nodes(self):
        twins = Twins(log_weave(Band((("ann", LOOP), ("bob", LOOP)))))
        self.assertEqual(twins.starts(), [0])
        self.assertEqual(twins.pair_of(0), (0, 0))
        self.assertEqual(sorted(twins.nexts(0)), [0, 1])
        self.assertEqual(twins.partings(), [1])
        self.assertEqual(list(twins.nexts(1)), [1])
        self.assertEqual((twins.is_doubt(0), twins.is_doubt(1), twins.is_final(0)), (False, True, True))

    def test_pairs_have_no_order(self):
        band = Band((("ann", Machine(3, ((0, "a", 1), (1, "b", 2), (2, "c", 0)), (0,))), ("bob", LOOP)))
        twins = Twins(log_weave(band))
        for node in list(twins.nexts(0)) + twins.partings():
            self.assertLessEqual(*twins.pair_of(node))

    def test_without_logs(self):
        twins = Twins(log_weave(Band((("ann", Machine(1)),))))
        self.assertEqual((twins.starts(), twins.partings()), ([], []))


class CrowdsTest(unittest.TestCase):
    def test_rules_change_no_answer(self):
        chance = random.Random("crowds")
        unlike = 0
        for band in some_bands(60, sizes=(2, 3, 4), writers=(2, 3), kind="crowds"):
            other = other_band(chance, band)
            lengths = []
            for most in (0, 2, 1000):
                with mock.patch.object(crowds, "MOST_RULES", most):
                    log = told_apart(band, other)
                    lengths.append(None if log is None else len(log))
            self.assertEqual(len(set(lengths)), 1)
            unlike += lengths[0] is not None
        self.assertGreater(unlike, 15)

    def test_covers(self):
        # A standing with an end covers one like it without.
        moves = [{"a": [0]}, {"a": [1]}, {"a": [0, 1], "b": [2]}]
        self.assertEqual(crowds._covers(moves, 0b001), [0b011, 0b010, 0b110])
        self.assertEqual(crowds._covers([{"a": [1]}, {"a": [0]}], 0b11), [0b11, 0b11])


if __name__ == "__main__":
    unittest.main()
