"""Papers: lists of pairs of standings that show, without a search, that a band is sure or not open for long."""

from whoselines.errors import NoNumber
from whoselines.kinds import is_integer, is_word
from whoselines.paths import led_to, longest_walks
from whoselines.twins import Twins
from whoselines.weaves import ascending, leading_on, trimmed, weave_of


def _both_ways(pair):
    """Return the list of a pair and its reverse, which may be the same."""
    one, two = pair
    return [(one, two)] if one == two else [(one, two), (two, one)]


def _standings_of(weave, pair):
    return (weave.standings[pair[0]], weave.standings[pair[1]])


def paper(band):
    """Return the ascending list of all pairs of standings to which two givings of the same entries lead that differ."""
    weave = ascending(weave_of(band))
    twins = Twins(weave)
    nodes = led_to(twins.nexts, twins.partings())
    pairs = [pair for node in nodes for pair in _both_ways(twins.pair_of(node))]
    return [_standings_of(weave, pair) for pair in sorted(pairs)]


def open_paper(band):
    """Return those pairs of the paper that can still be led to ends, each with for how many lines at most.

    None if there is no most.
    """
    weave = ascending(trimmed(weave_of(band)))
    twins = Twins(weave)
    ranks, again = longest_walks(twins.nexts, twins.partings())
    if again is not None:
        return None
    items = [(pair, rank) for node, rank in ranks.items() for pair in _both_ways(twins.pair_of(node))]
    return [(_standings_of(weave, pair), rank) for pair, rank in sorted(items)]


def _is_standing(value):
    """Tell whether a value is made as a standing is, of whatever states and name."""
    if not isinstance(value, tuple) or len(value) != 2:
        return False
    states, last = value
    if not isinstance(states, tuple) or not all([is_integer(state) for state in states]):
        return False
    return last is None or is_word(last)


def _pair_of(numbers, value):
    """Return the numbers of the standings of a pair, None if a value is no pair of standings that are reached."""
    if not isinstance(value, tuple) or len(value) != 2:
        return None
    one, two = value
    # The kinds first: other values may be no keys, or be equal to standings.
    if not _is_standing(one) or not _is_standing(two) or one not in numbers or two not in numbers:
        return None
    return (numbers[one], numbers[two])


def _numbers_of(weave):
    return {standing: number for number, standing in enumerate(weave.standings)}


def _listed(weave, thing):
    """Return a dict of the pairs of a list of pairs, None if a value is none."""
    if not isinstance(thing, list):
        return None
    numbers = _numbers_of(weave)
    pairs = {}
    for item in thing:
        pair = _pair_of(numbers, item)
        if pair is None:
            return None
        pairs[pair] = True
    return pairs


def _partings(weave):
    """Return the list of the pairs, both ways, to which two unlike writers with one entry lead from one standing."""
    twins = Twins(weave)
    return [pair for node in twins.partings() for pair in _both_ways(twins.pair_of(node))]


def _led_on(weave, pair):
    """Return the list of the pairs to which one entry leads a pair."""
    others = weave.moves[pair[1]]
    found = []
    for entry, lines in weave.moves[pair[0]].items():
        beside = [line[1] for line in others.get(entry, ())]
        found.extend([(line[1], number) for line in lines for number in beside])
    return found


def _is_final(weave, pair):
    return pair[0] in weave.finals and pair[1] in weave.finals


def shows_sure(band, thing):
    """Tell whether a value is a list of pairs that shows that each log of the band has just one right giving."""
    weave = weave_of(band)
    pairs = _listed(weave, thing)
    if pairs is None or not all([pair in pairs for pair in _partings(weave)]):
        return False
    for pair in pairs:
        if _is_final(weave, pair) or not all([after in pairs for after in _led_on(weave, pair)]):
            return False
    return True


def _ranked(weave, thing):
    """Return a dict of the ranks of the pairs of a list of (pair, rank), each pair once; None if a value is none."""
    if not isinstance(thing, list):
        return None
    numbers = _numbers_of(weave)
    ranks = {}
    for item in thing:
        if not isinstance(item, tuple) or len(item) != 2:
            return None
        pair = _pair_of(numbers, item[0])
        if pair is None or pair in ranks or not is_integer(item[1]) or item[1] < 0:
            return None
        ranks[pair] = item[1]
    return ranks


def _are_below(alive, ranks, pairs, most):
    """Tell whether all of some pairs that can be led to ends have ranks below a number."""
    for pair in pairs:
        if pair[0] in alive and pair[1] in alive and (pair not in ranks or ranks[pair] >= most):
            return False
    return True


def shows_open(band, thing, number):
    """Tell whether a value is a list of (pair, rank) that shows that open_for(band) is at most a number."""
    if not is_integer(number) or number < 0:
        raise NoNumber("a number is an integer from 0 on")
    weave = weave_of(band)
    ranks = _ranked(weave, thing)
    if ranks is None:
        return False
    alive = leading_on(weave)
    if not _are_below(alive, ranks, _partings(weave), number):
        return False
    for pair, rank in ranks.items():
        if not _are_below(alive, ranks, _led_on(weave, pair), rank):
            return False
    return True
