"""The standings of a band, numbered, and where its entries lead from each."""

from whoselines.entries import entry_of
from whoselines.paths import spread


class Weave:
    """Standings numbered from 0 on, that of the beginning ahead.

    standings has each standing; moves has, for each one, under each entry the lines that it can be: a list of
    (name, number of the standing behind it), in the order of the names; finals is a dict of the numbers of the
    standings at which all writers are at ends.
    """

    def __init__(self, standings, moves, finals):
        self.standings = standings
        self.moves = moves
        self.finals = finals


def _arrows_of(band):
    """Return, for each writer, for each state of its machine, the list of (entry, state) of the arrows there."""
    tables = []
    for name in band.names():
        machine = band.machine(name)
        table = [[] for _ in range(machine.size())]
        for state, sign, target in machine.arrows():
            table[state].append((entry_of(band, sign, name), target))
        tables.append(table)
    return tables


def _lines_from(band, tables, standing):
    """Return the list of (entry, name, standing behind it) of all lines that may come next."""
    states, last = standing
    lines = []
    for at, name in enumerate(band.names()):
        if (last, name) not in band.barred():
            for entry, target in tables[at][states[at]]:
                lines.append((entry, name, (states[:at] + (target,) + states[at + 1:], name)))
    return lines


def _are_at_ends(band, standing):
    return all([state in band.machine(name).ends() for state, name in zip(standing[0], band.names())])


def weave_of(band):
    """Return the weave of all standings that are reached by some entries."""
    tables = _arrows_of(band)
    beginning = (tuple([0 for _ in band.names()]), None)
    numbers = {beginning: 0}
    standings = [beginning]
    moves = []
    while len(moves) < len(standings):
        under = {}
        for entry, name, behind in _lines_from(band, tables, standings[len(moves)]):
            if behind not in numbers:
                numbers[behind] = len(standings)
                standings.append(behind)
            under.setdefault(entry, []).append((name, numbers[behind]))
        moves.append(under)
    finals = {number: True for number, standing in enumerate(standings) if _are_at_ends(band, standing)}
    return Weave(standings, moves, finals)


def leading_on(weave):
    """Return a dict of the numbers of the standings that can be led to ends of all writers."""
    before = [[] for _ in weave.moves]
    for number, under in enumerate(weave.moves):
        for lines in under.values():
            for _, behind in lines:
                before[behind].append(number)
    return spread(before, weave.finals)


def _renumbered(weave, numbers, kept):
    """Return the weave of the kept standings, in this order, without what leads to standings that have no number."""
    moves = []
    for old in kept:
        under = {}
        for entry, lines in weave.moves[old].items():
            left = [(name, numbers[behind]) for name, behind in lines if behind in numbers]
            if left:
                under[entry] = left
        moves.append(under)
    finals = {numbers[old]: True for old in kept if old in weave.finals}
    return Weave([weave.standings[old] for old in kept], moves, finals)


def trimmed(weave):
    """Return the weave of the standings that can be led to ends; it has none if there is no log."""
    alive = leading_on(weave)
    kept = [number for number in range(len(weave.moves)) if number in alive]
    return _renumbered(weave, {old: new for new, old in enumerate(kept)}, kept)


def standing_key(standing):
    """Return what orders standings: no last name ahead of all names."""
    states, last = standing
    return (states, "" if last is None else last)


def ascending(weave):
    """Return the weave with its standings in their order, in which that of the beginning is the first, too."""
    kept = sorted(range(len(weave.standings)), key=lambda number: standing_key(weave.standings[number]))
    return _renumbered(weave, {old: new for new, old in enumerate(kept)}, kept)


def _numbered(keys):
    """Return a number for each key, the same for equal ones, in the order in which they first stand."""
    numbers = {}
    return [numbers.setdefault(key, len(numbers)) for key in keys]


def _kinds(weave):
    """Return a number for each standing, the same for those from which the same lines lead to ends."""
    rows = []
    for under in weave.moves:
        rows.append(sorted([(entry, name, behind) for entry, lines in under.items() for name, behind in lines]))
    kinds = _numbered([
        (number in weave.finals, tuple([line[:2] for line in row])) for number, row in enumerate(rows)
    ])
    while True:
        finer = _numbered([
            (kinds[number], tuple([kinds[line[2]] for line in row])) for number, row in enumerate(rows)
        ])
        if max(finer, default=0) == max(kinds, default=0):
            return kinds
        kinds = finer


def merged(weave):
    """Return the weave in which standings from which the same lines lead to ends are one."""
    kinds = _kinds(weave)
    firsts = {}
    for number, kind in enumerate(kinds):
        firsts.setdefault(kind, number)
    return _renumbered(weave, {number: kind for number, kind in enumerate(kinds)}, list(firsts.values()))


def log_weave(band):
    """Return the least weave that has the right givings of all logs; it has no standing if there is no log."""
    return merged(trimmed(weave_of(band)))
