"""Papers: promises [21] and [22]."""

import copy
import random
import unittest
from unittest import mock

import slow
from helpers import check_error, check_kept, check_new, no_integers, no_lists, no_tuples, no_words, others, some_bands

from whoselines.bands import Band
from whoselines.doubts import is_sure, open_for
from whoselines.machines import Machine
from whoselines.papers import open_paper, paper, shows_open, shows_sure

PLAIN = Machine(2, ((0, "open", 1), (1, "note", 1), (1, "shut", 0)), (0,))
SHORT = Machine(2, ((0, "note", 1),), (0, 1))
BAND = Band((("ann", PLAIN), ("bob", SHORT)))
# Two writers of the same two signs: the second sign tells who wrote the first one.
FIRST = Machine(3, ((0, "a", 1), (1, "b", 2)), (2,))
SECOND = Machine(2, ((0, "a", 1), (1, "c", 0)), (0,))
SURE = Band((("ann", FIRST), ("bob", SECOND)), (("ann", "bob"),))
NEVER = Band((("ann", Machine(1, ((0, "a", 0),))), ("bob", Machine(1, ((0, "a", 0),), (0,)))))
ALONE = Band((("ann", PLAIN),))
BANDS = some_bands(50, kind="papers") + some_bands(
    25, sizes=(3, 4), writers=(2,), onward=True, kind="papers") + some_bands(
    12, sizes=(2, 3), writers=(3,), onward=True, kind="papers") + [BAND, SURE, NEVER, ALONE]
TRIALS = [slow.Pairs(band) for band in BANDS]


def slow_ranks(pairs):
    """The ranks of an open paper, one line more each round; None if they rise for ever."""
    left = {pair for pair in pairs.parted() if pairs.is_alive(pair)}
    after = {pair: [other for other in pairs.led_on(pair) if other in left] for pair in left}
    ranks = dict.fromkeys(left, 0)
    for _ in range(len(left) + 1):
        higher = {pair: max([ranks[other] + 1 for other in after[pair]], default=0) for pair in left}
        if higher == ranks:
            return ranks
        ranks = higher
    return None


def judge_sure(pairs, thing):
    """What shows_sure is to tell of a list of pairs of reached standings."""
    needed = set(pairs.partings)
    for pair in thing:
        needed |= pairs.led_on(pair)
    return needed <= set(thing) and not any(pairs.is_final(pair) for pair in thing)


def judge_open(pairs, thing, number):
    """What shows_open is to tell of a list of (pair, rank) of reached standings."""
    ranks = dict(thing)
    needed = [(pair, number) for pair in pairs.partings]
    needed += [(after, rank) for pair, rank in thing for after in pairs.led_on(pair)]
    needed = [(pair, most) for pair, most in needed if pairs.is_alive(pair)]
    return len(ranks) == len(thing) and all(pair in ranks and ranks[pair] < most for pair, most in needed)


def near_lists(chance, items, more):
    """Lists near to one: as it is, in other orders, with an item left out, put in, exchanged or twice."""
    found = [items, items[::-1], chance.sample(items, len(items)), []]
    for _ in range(4):
        at = chance.randrange(len(items) + 1)
        found.append(items[:at] + items[at + 1:])
        if more:
            found.append(items[:at] + [chance.choice(more)] + items[at:])
            found.append(items[:at] + [chance.choice(more)] + items[at + 1:])
        if items:
            found.append(items[:at] + [chance.choice(items)] + items[at:])
    return found


def spoilt_pairs(pair):
    """Values that are no pairs of standings, though some are equal to one or near to one."""
    (states, last), two = pair
    true_states = tuple({0: False, 1: True}.get(state, state) for state in states)
    float_states = tuple(float(state) for state in states)
    wrong = [
        (), (pair[0],), pair + (two,), list(pair), (pair,), {pair: 1}, (pair[0], None), (pair[0], list(two)),
        ((true_states, last), two), ((float_states, last), two), ((list(states), last), two),
        ((states + (0,), last), two), ((states[1:], last), two), (states, last), ((states,), two),
        ((states, last, last), two), ([states, last], two), ((5,) * len(states), last),
        (((9,) * len(states), last), two), (((-1,) * len(states), last), two), ((states, "nobody"), two),
        ((states, mock.ANY), two), (mock.ANY, two), (pair[0], mock.ANY), ((mock.ANY, last), two),
        (((mock.ANY,) * len(states), last), two), ((states, [last]), two), ((([0],) * len(states), last), two),
        ((((10 ** 59,) * len(states)), last), two), (two, (states, "")), (two, (states, 0)), (two, (states, False)),
    ]
    return wrong + [(pair[0], value) for value in no_tuples()] + [(value, two) for value in no_tuples()] + [
        ((states, value), two) for value in no_words() if value is not None]


class Paper(unittest.TestCase):
    def test_trials(self):
        sizes = {len(paper(band)) > 0 for band in BANDS}
        self.assertEqual(sizes, {True, False})
        for pairs in TRIALS:
            found = paper(pairs.band)
            self.assertIs(type(found), list)
            self.assertEqual(found, sorted(pairs.parted(), key=slow.places))

    def test_trials_of_few_entries(self):
        for band in BANDS[::3]:
            told = slow.parted_by_trial(band, 4)
            found = paper(band)
            self.assertLessEqual(told, set(found))
            if len(found) < 3:
                self.assertEqual(told, set(found))

    def test_each_pair_and_its_reverse(self):
        for band in BANDS:
            found = set(paper(band))
            self.assertEqual(found, {(two, one) for one, two in found})

    def test_shapes(self):
        one, two = ((0, 1), "bob"), ((1, 0), "ann")
        self.assertEqual(paper(SURE), [(one, two), (two, one)])
        found = paper(BAND)
        self.assertEqual(found[:3], [
            (((0, 0), "ann"), ((0, 1), "ann")), (((0, 1), "ann"), ((0, 0), "ann")), (((0, 1), "ann"), ((0, 1), "ann")),
        ])
        self.assertEqual((len(found), found[-1]), (10, (((1, 1), "bob"), ((1, 1), "ann"))))

    def test_the_order_of_standings(self):
        for band in BANDS:
            keys = [slow.places(pair) for pair in paper(band)]
            self.assertEqual(keys, sorted(set(keys)))

    def test_a_band_without_a_log(self):
        self.assertEqual(len(paper(NEVER)), 4)
        self.assertEqual(open_paper(NEVER), [])
        self.assertIs(shows_sure(NEVER, paper(NEVER)), True)
        self.assertIs(shows_sure(NEVER, []), False)
        self.assertIs(shows_open(NEVER, [], 0), True)

    def test_one_writer(self):
        self.assertEqual((paper(ALONE), open_paper(ALONE)), ([], []))
        self.assertIs(shows_sure(ALONE, []), True)
        self.assertIs(shows_open(ALONE, [], 0), True)

    def test_answers_are_new(self):
        for band in (BAND, SURE):
            check_new(self, paper, band)
        check_new(self, open_paper, SURE)
        self.assertEqual(paper(band=BAND), paper(BAND))
        self.assertEqual(open_paper(band=SURE), open_paper(SURE))

    def test_a_large_band(self):
        chance = random.Random("large")
        writers = tuple((name, Machine(5, tuple(
            (state, sign, chance.randrange(5)) for state in range(5) for sign in "abcdefgh"
        ))) for name in ("ann", "bob", "cid"))
        band = Band(writers)
        found = paper(band)
        self.assertGreater(len(found), 100000)
        self.assertIs(shows_sure(band, found), True)
        self.assertIs(shows_sure(band, found[1:]), False)


class ShowsSure(unittest.TestCase):
    def test_the_paper_of_a_sure_band(self):
        answers = set()
        for pairs in TRIALS:
            thing = paper(pairs.band)
            answer = shows_sure(pairs.band, thing)
            self.assertIs(type(answer), bool)
            self.assertIs(answer, judge_sure(pairs, thing))
            answers.add((answer, len(thing) > 0))
        self.assertGreaterEqual(answers, {(True, True), (False, True), (True, False)})

    def test_a_sure_band_has_a_paper_that_shows_it(self):
        for band in BANDS:
            if is_sure(band):
                self.assertIs(shows_sure(band, paper(band)), True)

    def test_no_list_shows_that_another_band_is_sure(self):
        for pairs in TRIALS:
            if not is_sure(pairs.band):
                for thing in (paper(pairs.band), pairs.every, []):
                    self.assertIs(shows_sure(pairs.band, thing), False)

    def test_near_lists(self):
        chance = random.Random("near")
        answers = {True: 0, False: 0}
        for pairs in TRIALS:
            for thing in near_lists(chance, paper(pairs.band), pairs.every):
                answer = shows_sure(pairs.band, thing)
                self.assertIs(answer, judge_sure(pairs, thing))
                answers[answer] += 1
        self.assertGreater(min(answers.values()), 300)

    def test_pairs_that_are_not_reached_together(self):
        # All pairs but those at ends: more than the paper has.
        found = 0
        for pairs in TRIALS:
            thing = [pair for pair in pairs.every if not pairs.is_final(pair)]
            answer = shows_sure(pairs.band, thing)
            self.assertIs(answer, judge_sure(pairs, thing))
            found += answer and len(thing) > len(paper(pairs.band))
        self.assertGreater(found, 5)

    def test_twice_and_in_any_order(self):
        pairs = paper(SURE)
        self.assertIs(shows_sure(SURE, pairs), True)
        self.assertIs(shows_sure(SURE, pairs + pairs[::-1]), True)
        self.assertIs(shows_sure(SURE, pairs[1:]), False)

    def test_a_pair_without_its_reverse(self):
        for band in (SURE, NEVER):
            for pair in paper(band):
                left = [other for other in paper(band) if other != pair]
                self.assertIs(shows_sure(band, left), False)

    def test_pairs_of_no_standings(self):
        for band in (SURE, NEVER):
            pairs = paper(band)
            self.assertIs(shows_sure(band, pairs), True)
            for wrong in spoilt_pairs(pairs[0]):
                for thing in ([wrong], pairs + [wrong], [wrong] + pairs[1:], pairs[:1] + [wrong] + pairs[1:]):
                    self.assertIs(shows_sure(band, thing), False, repr(wrong))

    def test_standings_that_no_entries_reach(self):
        far = Machine(3, ((0, "a", 0), (2, "a", 2)), ())
        band = Band((("ann", far), ("bob", far)))
        pairs = paper(band)
        self.assertIs(shows_sure(band, pairs), True)
        for unreached in (((0, 2), "ann"), ((2, 2), "bob"), ((0, 0), "cid"), ((1, 0), None)):
            for more in ((unreached, pairs[0][0]), (pairs[0][0], unreached)):
                self.assertIs(shows_sure(band, pairs + [more]), False)
        # That of the beginning is reached by no entries at all.
        self.assertIs(shows_sure(band, pairs + [(((0, 0), None), pairs[0][0])]), True)

    def test_values_that_are_no_lists(self):
        for band in (ALONE, SURE):
            for thing in no_lists() + [tuple(paper(SURE)), {pair: pair for pair in paper(SURE)}, set(paper(SURE))]:
                self.assertIs(shows_sure(band, thing), False)
        for item in others() + no_tuples() + no_words():
            self.assertIs(shows_sure(ALONE, [item]), False)

    def test_nothing_is_changed(self):
        pairs = paper(SURE)
        self.assertIs(check_kept(self, shows_sure, SURE, pairs), True)
        self.assertIs(shows_sure(band=SURE, thing=pairs), True)
        self.assertEqual(pairs, paper(SURE))


class OpenPaper(unittest.TestCase):
    def test_trials(self):
        kinds = set()
        for pairs in TRIALS:
            ranks = slow_ranks(pairs)
            found = open_paper(pairs.band)
            self.assertEqual(found is None, open_for(pairs.band) is None)
            if ranks is None:
                self.assertIsNone(found)
                kinds.add(None)
            else:
                self.assertIs(type(found), list)
                self.assertEqual(found, [(pair, ranks[pair]) for pair in sorted(ranks, key=slow.places)])
                kinds.add(max(ranks.values(), default=-1))
        self.assertGreaterEqual(kinds, {None, -1, 0, 1, 2, 3})

    def test_the_greatest_rank_and_open_for(self):
        for pairs in TRIALS:
            found = open_paper(pairs.band)
            if found is not None:
                ranks = dict(found)
                highest = max([ranks[pair] + 1 for pair in pairs.partings if pair in ranks], default=0)
                self.assertEqual(open_for(pairs.band), highest)

    def test_shapes(self):
        self.assertIsNone(open_paper(BAND))
        one, two = ((0, 1), "bob"), ((1, 0), "ann")
        self.assertEqual(open_paper(SURE), [((one, two), 0), ((two, one), 0)])


class ShowsOpen(unittest.TestCase):
    def numbered(self):
        """The trials of bands that have an open paper, each with it and the number that it shows."""
        found = [(pairs, open_paper(pairs.band), open_for(pairs.band)) for pairs in TRIALS]
        return [one for one in found if one[1] is not None]

    def test_open_papers(self):
        for pairs, items, most in self.numbered():
            for number in range(most + 3):
                self.assertIs(shows_open(pairs.band, items, number), number >= most)
            self.assertIs(shows_open(pairs.band, items, 10 ** 59), True)
            self.assertIs(shows_open(pairs.band, items[::-1], most), True)

    def test_near_lists(self):
        chance = random.Random("near")
        answers = {True: 0, False: 0}
        for pairs, items, most in self.numbered():
            more = [(pair, chance.randrange(most + 2)) for pair in pairs.every]
            for near in near_lists(chance, items, more):
                for number in (most, most + 1):
                    answer = shows_open(pairs.band, near, number)
                    self.assertIs(answer, judge_open(pairs, near, number))
                    answers[answer] += 1
        self.assertGreater(min(answers.values()), 200)

    def test_other_ranks(self):
        chance = random.Random("ranks")
        answers = {True: 0, False: 0}
        for pairs, items, most in self.numbered():
            for _ in range(6 if items else 0):
                at = chance.randrange(len(items))
                pair, rank = items[at]
                for other in {max(rank - 1, 0), rank + 1, rank + 10 ** 50, 0}:
                    near = items[:at] + [(pair, other)] + items[at + 1:]
                    answer = shows_open(pairs.band, near, most + 1)
                    self.assertIs(answer, judge_open(pairs, near, most + 1))
                    answers[answer] += 1
            # Ranks may be greater than they need to be.
            higher = [(pair, 2 * rank + 7) for pair, rank in items]
            self.assertIs(shows_open(pairs.band, higher, 2 * most + 7), judge_open(pairs, higher, 2 * most + 7))
            self.assertIs(shows_open(pairs.band, higher, 10 ** 59), True)
            if items:
                lower = [(pair, rank - 1) for pair, rank in items]
                self.assertIs(shows_open(pairs.band, lower, most), False)
        self.assertGreater(min(answers.values()), 30)

    def test_one_rank_too_small(self):
        checked = 0
        for pairs, items, most in self.numbered():
            for at, (pair, rank) in enumerate(items):
                if rank > 0:
                    near = items[:at] + [(pair, rank - 1)] + items[at + 1:]
                    self.assertIs(shows_open(pairs.band, near, most), False)
                    checked += 1
        self.assertGreater(checked, 20)

    def test_a_pair_twice(self):
        for pairs, items, most in self.numbered():
            for pair, rank in items[:2]:
                for twice in (items + [(pair, rank)], [(pair, rank + 1)] + items):
                    self.assertIs(shows_open(pairs.band, twice, most + 5), False)

    def test_pairs_that_lead_to_no_ends(self):
        # Such pairs may be left out, and may stand there with any rank.
        found = 0
        for pairs, items, most in self.numbered():
            dead = [pair for pair in pairs.every if not pairs.is_alive(pair)]
            more = items + [(pair, 0) for pair in dead]
            self.assertIs(shows_open(pairs.band, more, most), True)
            found += len(dead) > 0
        self.assertGreater(found, 5)

    def test_pairs_that_no_two_lead_to(self):
        # Only the pairs at which two givings part are to have ranks below the number.
        found = 0
        for pairs, items, most in self.numbered():
            known = {pair for pair, _ in items}
            more = [
                pair for pair in pairs.every
                if pair not in known and pairs.is_alive(pair)
                and all(after in known for after in pairs.led_on(pair) if pairs.is_alive(after))
            ]
            thing = items + [(pair, most + 5) for pair in more]
            self.assertIs(shows_open(pairs.band, thing, most), True)
            found += len(more) > 0
        self.assertGreater(found, 5)

    def test_bands_that_stay_open_for_ever(self):
        checked = 0
        for band in BANDS:
            if open_for(band) is None:
                pairs = [(pair, 5) for pair in paper(band)]
                for thing in ([], pairs, [(pair, at) for at, (pair, _) in enumerate(pairs)]):
                    self.assertIs(shows_open(band, thing, 10 ** 59), False)
                checked += 1
        self.assertGreater(checked, 5)

    def test_items_that_are_no_pairs_with_ranks(self):
        items, most = open_paper(SURE), open_for(SURE)
        pair, rank = items[0]
        wrong = [(), (pair,), (pair, rank, rank), [pair, rank], pair, (rank, pair), (pair, -1), (pair, mock.ANY)]
        wrong += [(pair, value) for value in no_integers()] + no_tuples()
        wrong += [(value, rank) for value in spoilt_pairs(pair) + no_tuples()]
        self.assertIs(shows_open(SURE, items, most), True)
        for item in wrong:
            for thing in ([item], items + [item], [item] + items[1:]):
                self.assertIs(shows_open(SURE, thing, most), False, repr(item))
            self.assertIs(shows_open(ALONE, [item], 9), False)
        # True is no rank, though a rank of 1 would do.
        for at, (other, one) in enumerate(items):
            self.assertIs(shows_open(SURE, items[:at] + [(other, bool(one))] + items[at + 1:], 99), False)

    def test_values_that_are_no_lists(self):
        for thing in no_lists() + [tuple(open_paper(SURE)), dict(open_paper(SURE))]:
            self.assertIs(shows_open(SURE, thing, 99), False)
            self.assertIs(shows_open(ALONE, thing, 0), False)

    def test_no_number(self):
        for thing in (open_paper(SURE), [], None, [None]):
            for number in no_integers() + [-1, -10 ** 59]:
                check_error(self, "NoNumber", shows_open, SURE, thing, number)
                check_error(self, "NoNumber", shows_open, band=ALONE, thing=thing, number=number)

    def test_nothing_is_changed(self):
        items = open_paper(SURE)
        self.assertIs(check_kept(self, shows_open, SURE, items, 9), True)
        self.assertIs(shows_open(band=SURE, thing=items, number=9), True)
        kept = copy.deepcopy(items)
        check_error(self, "NoNumber", shows_open, SURE, items, True)
        self.assertEqual(items, kept)


if __name__ == "__main__":
    unittest.main()
