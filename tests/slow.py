"""Plain trials of all givings, all lists of entries and all ways to share out a row, to compare answers with."""

import itertools


def rights(band, log):
    """All right givings of a list of entries, in order: each list of names is tried."""
    tried = itertools.product(band.names(), repeat=len(log))
    return [list(names) for names in tried if is_right(band, log, names)]


def is_right(band, log, names):
    for (sign, name), owner in zip(log, names, strict=True):
        if name != (owner if sign in band.shown() else None):
            return False
    if any(pair in band.barred() for pair in itertools.pairwise(names)):
        return False
    return all(
        band.machine(owner).writes([entry[0] for entry, name in zip(log, names) if name == owner])
        for owner in band.names()
    )


def entries(band, more=()):
    """All entries of the signs of the band, and of more signs."""
    found = []
    for sign in sorted(set(band.signs()) | set(more)):
        found += [(sign, name) for name in (band.names() if sign in band.shown() else (None,))]
    return found


def lists(band, length):
    """All lists of as many entries of the signs of the band."""
    return [list(log) for log in itertools.product(entries(band), repeat=length)]


def step(band, standing, sign, name):
    """The standing behind a line, None if the writer cannot write it there."""
    states, last = standing
    if (last, name) in band.barred():
        return None
    at = band.names().index(name)
    target = band.machine(name).step(states[at], sign)
    return None if target is None else (states[:at] + (target,) + states[at + 1:], name)


def beginning(band):
    return (0,) * len(band.names()), None


def behind(band, log, names):
    """The standing to which a giving leads, None if it is not right as far as it goes."""
    standing = beginning(band)
    for (sign, name), owner in zip(log, names, strict=True):
        if name != (owner if sign in band.shown() else None):
            return None
        standing = step(band, standing, sign, owner)
        if standing is None:
            return None
    return standing


def at_ends(band, standing):
    return all(state in band.machine(name).ends() for state, name in zip(standing[0], band.names()))


def reached_from(band, standing):
    """All standings to which lines lead from this one, itself among them."""
    found = [standing]
    for one in found:
        for sign in band.signs():
            for name in band.names():
                after = step(band, one, sign, name)
                if after is not None and after not in found:
                    found.append(after)
    return found


def is_alive(band, standing):
    return any(at_ends(band, after) for after in reached_from(band, standing))


class Lines:
    """All ways to write up to so many lines that are the beginning of a right giving of a log."""

    def __init__(self, band, most):
        self.band = band
        alive = {}
        ways = [((), (), beginning(band))]
        self.at = []
        for _ in range(most + 1):
            ways = [way for way in ways if self.stays(alive, way[2])]
            self.at.append(ways)
            ways = [
                (log + ((sign, name if sign in band.shown() else None),), names + (name,), after)
                for log, names, standing in ways for sign in band.signs() for name in band.names()
                for after in [step(band, standing, sign, name)] if after is not None
            ]

    def stays(self, alive, standing):
        if standing not in alive:
            alive[standing] = is_alive(self.band, standing)
        return alive[standing]

    def openings(self, length):
        """The beginnings of this length, each with its open givings."""
        found = {}
        for log, names, _ in self.at[length]:
            found.setdefault(log, []).append(names)
        return found

    def logs(self, length):
        """The logs of this length, each with its right givings."""
        found = {}
        for log, names, standing in self.at[length]:
            if at_ends(self.band, standing):
                found.setdefault(log, []).append(names)
        return found

    def lengths(self):
        return range(len(self.at))


def first_difference(one, two):
    return [a == b for a, b in zip(one, two, strict=True)].index(False)


def shares(length):
    """All lists of numbers for so many signs, each number for the first time behind all lesser ones."""
    if length == 0:
        return [[]]
    return [
        numbers + [number] for numbers in shares(length - 1) for number in range(max(numbers, default=-1) + 2)
    ]


def crews(machine, row):
    """All ways to share out a row among writers with this machine."""
    return [
        numbers for numbers in shares(len(row))
        if all(
            machine.writes([sign for sign, one in zip(row, numbers) if one == number]) for number in set(numbers)
        )
    ]


def common(one, two):
    """How many items the longest list has that is in both lists, in order, with gaps."""
    best = [0] * (len(two) + 1)
    for item in one:
        ahead = 0
        for at, other in enumerate(two):
            ahead, best[at + 1] = best[at + 1], max(best[at], best[at + 1], ahead + 1 if item == other else 0)
    return best[-1]


def line_steps(band, standing):
    """All (entry, name, standing behind) of the lines that may come next."""
    found = []
    for sign in band.signs():
        for name in band.names():
            after = step(band, standing, sign, name)
            if after is not None:
                found.append(((sign, name if sign in band.shown() else None), name, after))
    return found


class Pairs:
    """Where one entry leads the pairs of the standings that a band reaches, looked up standing by standing."""

    def __init__(self, band):
        self.band = band
        self.reached = reached_from(band, beginning(band))
        self.alive = {standing for standing in self.reached if is_alive(band, standing)}
        self.steps = {standing: line_steps(band, standing) for standing in self.reached}
        # All pairs to which two unlike writers with one entry lead from one standing.
        self.partings = {
            (one[2], two[2]) for steps in self.steps.values() for one in steps for two in steps
            if one[0] == two[0] and one[1] != two[1]
        }
        self.every = [(one, two) for one in self.reached for two in self.reached]

    def led_on(self, pair):
        """All pairs to which one entry leads a pair."""
        return {
            (one[2], two[2]) for one in self.steps[pair[0]] for two in self.steps[pair[1]] if one[0] == two[0]
        }

    def parted(self):
        """All pairs that are reached together and parted."""
        left = list(self.partings)
        found = set()
        while left:
            pair = left.pop()
            if pair not in found:
                found.add(pair)
                left += self.led_on(pair)
        return found

    def is_alive(self, pair):
        return pair[0] in self.alive and pair[1] in self.alive

    def is_final(self, pair):
        return all(at_ends(self.band, standing) for standing in pair)


def parted_by_trial(band, most):
    """All pairs to which two givings that differ of some list of at most so many entries lead."""
    found = set()
    for length in range(most + 1):
        for log in lists(band, length):
            ways = [(names, behind(band, log, names)) for names in itertools.product(band.names(), repeat=length)]
            ways = [way for way in ways if way[1] is not None]
            found |= {(one[1], two[1]) for one in ways for two in ways if one[0] != two[0]}
    return found


def place(standing):
    """What orders standings."""
    return standing[0], standing[1] or ""


def places(pair):
    return place(pair[0]), place(pair[1])
