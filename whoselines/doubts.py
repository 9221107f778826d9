"""All logs of a band: whether each has one giving alone, how long two stay possible, and what makes all sure."""

from whoselines.crowds import shortest_apart
from whoselines.errors import TooLong
from whoselines.hits import indexes, least_hitting
from whoselines.logs import giving_at
from whoselines.paths import longest_walks, shortest_walk, spread
from whoselines.twins import Twins
from whoselines.weaves import log_weave

MOST_HIDDEN = 8


def _doubtful_log(band):
    """Return a shortest log with two right givings, None if there is none."""
    twins = Twins(log_weave(band))
    return shortest_walk(twins.nexts, twins.starts(), twins.is_doubt)


def first_doubt(band):
    """Return a shortest log with two right givings and two unlike ones of them, None if there is no such log."""
    log = _doubtful_log(band)
    if log is None:
        return None
    return log, giving_at(band, log, 0), giving_at(band, log, 1)


def is_sure(band):
    """Tell whether each log has just one right giving."""
    return _doubtful_log(band) is None


def doubtful_signs(band):
    """Return the ascending list of the signs such that some line of this sign in some log has two owners."""
    twins = Twins(log_weave(band))
    befores = {node: [] for node in twins.starts()}
    nodes = list(befores)
    at = 0
    while at < len(nodes):
        node = nodes[at]
        for after in twins.nexts(node):
            if after not in befores:
                befores[after] = []
                nodes.append(after)
            befores[after].append(node)
        at += 1
    right = spread(befores, [node for node in nodes if twins.is_final(node)])
    return sorted({sign for node in right for sign, after in twins.splits(node) if after in right})


def open_for(band):
    """Return for how many lines at most two givings that differ can stay possible, None if there is no most."""
    twins = Twins(log_weave(band))
    partings = twins.partings()
    ranks, again = longest_walks(twins.nexts, partings)
    if again is not None:
        return None
    return max([1 + ranks[node] for node in partings], default=0)


def open_ring(band):
    """Return entries behind which two givings differ, and some that can follow again and again; None if none can."""
    twins = Twins(log_weave(band))
    _, again = longest_walks(twins.nexts, twins.partings())
    if again is None:
        return None
    beginning = shortest_walk(twins.nexts, twins.starts(), lambda node: node == again)
    return beginning, shortest_walk(twins.nexts, [again], lambda node: node == again)


def _signs_at(hidden, mask):
    return tuple([hidden[index] for index in indexes(mask)])


def _doubt_beside(band, hidden, lot):
    """Return the mask of the signs at which two givings of a log differ though a lot is shown, None if none do."""
    doubt = first_doubt(band.showing(_signs_at(hidden, lot)))
    if doubt is None:
        return None
    log, giving, other = doubt
    mask = 0
    for entry, name, another in zip(log, giving, other):
        if name != another:
            mask |= 1 << hidden.index(entry[0])
    return mask


def least_lots(band):
    """Return the list of all least tuples of signs that make the band sure when they are shown, too."""
    hidden = [sign for sign in band.signs() if sign not in band.shown()]
    if len(hidden) > MOST_HIDDEN:
        raise TooLong("at most 8 signs are not shown here")
    doubts = []
    sure = {}
    while True:
        # A lot makes the band sure if it has a sign of each doubt; those found so far tell what to try.
        lots = [lot for lot in least_hitting(len(hidden), doubts) if lot not in sure]
        if not lots:
            return sorted([_signs_at(hidden, lot) for lot in least_hitting(len(hidden), doubts)])
        doubt = _doubt_beside(band, hidden, lots[0])
        if doubt is None:
            sure[lots[0]] = True
        else:
            doubts.append(doubt)


def told_apart(band, other):
    """Return a shortest log that just one of two bands has, None if they have the same logs."""
    return shortest_apart(log_weave(band), log_weave(other))
