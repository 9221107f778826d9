"""One log: its right givings counted and told by number, the owners of its lines, and what tells a giving."""

from whoselines.entries import check_log
from whoselines.errors import NoGiving, NoNumber, TooLong
from whoselines.hits import hitting, indexes
from whoselines.kinds import is_integer, is_word
from whoselines.places import owners_on, walks
from whoselines.weaves import standing_key, weave_of

LONGEST_TOLD = 12


def _right_walks(weave, log):
    """Return, for each place between lines, a dict of the standings there of all right givings."""
    return walks(weave, log, {0: True}, weave.finals)


def _ways(weave, log):
    """Return, for each place, under each standing of a right giving, in how many right ways it goes on from there."""
    kept = _right_walks(weave, log)
    last = {number: 1 for number in kept[-1]}
    ways = [last]
    for at in reversed(range(len(log))):
        after = ways[-1]
        ways.append({number: _sum_of(after, weave.moves[number][log[at]]) for number in kept[at]})
    return ways[::-1]


def _sum_of(after, lines):
    return sum([after.get(behind, 0) for _, behind in lines])


def is_log(band, log):
    """Tell whether a list of entries is a log."""
    return count(band, log) > 0


def count(band, log):
    """Return the number of the right givings of a list of entries."""
    check_log(band, log)
    return _ways(weave_of(band), log)[0].get(0, 0)


def _take_line(lines, after, left):
    """Return the name of the line in whose part the place lies, the standing behind it, and the place in this part."""
    at = 0
    while left >= after.get(lines[at][1], 0):
        left -= after.get(lines[at][1], 0)
        at += 1
    return lines[at][0], lines[at][1], left


def giving_at(band, log, number):
    """Return the right giving at this place, from 0 on, in their order."""
    check_log(band, log)
    weave = weave_of(band)
    ways = _ways(weave, log)
    if not is_integer(number) or not 0 <= number < ways[0].get(0, 0):
        raise NoNumber("a number is an integer from 0 on, below the count of the right givings")
    giving = []
    standing = 0
    left = number
    for at, entry in enumerate(log):
        name, standing, left = _take_line(weave.moves[standing][entry], ways[at + 1], left)
        giving.append(name)
    return giving


def _place_of(weave, log, giving):
    """Return the place of a right giving, None for any other value."""
    ways = _ways(weave, log)
    if not isinstance(giving, list) or len(giving) != len(log) or 0 not in ways[0]:
        return None
    place = 0
    standing = 0
    for at, name in enumerate(giving):
        after = ways[at + 1]
        lines = [line for line in weave.moves[standing][log[at]] if line[1] in after]
        names = [line[0] for line in lines]
        # A word first: another value may be equal to anything.
        if not is_word(name) or name not in names:
            return None
        chosen = names.index(name)
        place += _sum_of(after, lines[:chosen])
        standing = lines[chosen][1]
    return place


def _checked_place(weave, log, giving):
    place = _place_of(weave, log, giving)
    if place is None:
        raise NoGiving("not a right giving of this list of entries")
    return place


def number_of(band, log, giving):
    """Return the place of a right giving, from 0 on, in their order."""
    check_log(band, log)
    return _checked_place(weave_of(band), log, giving)


def owners(band, log):
    """Return, for each line, the list of the names that it has in some right giving."""
    check_log(band, log)
    weave = weave_of(band)
    return owners_on(weave, log, _right_walks(weave, log), band.names())


def sure_lines(band, log):
    """Return the ascending list of the indexes of the lines with just one owner."""
    return [index for index, names in enumerate(owners(band, log)) if len(names) == 1]


def web(band, log):
    """Return, for each place between lines, the ascending list of the standings there of all right givings."""
    check_log(band, log)
    weave = weave_of(band)
    return [
        sorted([weave.standings[number] for number in kept], key=standing_key)
        for kept in _right_walks(weave, log)
    ]


def _differences(weave, log, giving):
    """Return the masks of the lines at which some right giving differs from this one, itself with 0 among them."""
    kept = _right_walks(weave, log)
    masks = {0: {0: True}}
    for at, entry in enumerate(log):
        following = {}
        for number in masks:
            for name, behind in weave.moves[number].get(entry, ()):
                if behind in kept[at + 1]:
                    bit = 0 if name == giving[at] else 1 << at
                    found = following.setdefault(behind, {})
                    for mask in masks[number]:
                        found[mask | bit] = True
        masks = following
    return sorted({mask for found in masks.values() for mask in found})


def least_told(band, log, giving):
    """Return the fewest indexes of lines whose names no other right giving has, of several the first tuple."""
    check_log(band, log)
    weave = weave_of(band)
    _checked_place(weave, log, giving)
    if len(log) > LONGEST_TOLD:
        raise TooLong("a log has at most 12 lines here")
    others = [mask for mask in _differences(weave, log, giving) if mask > 0]
    told = [indexes(mask) for mask in hitting(len(log), others)]
    return min(told, key=_told_key)


def _told_key(told):
    return (len(told), told)
