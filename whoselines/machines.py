"""Machines: which signs may come next, and where a row may end."""

from whoselines.errors import NoArrow, NoEnds, NoSign, NoSize, NoState
from whoselines.kinds import check_row, is_integer, is_word

MOST_STATES = 5
MOST_ARROWS = 40


def _is_state(size, value):
    return is_integer(value) and 0 <= value < size


def _is_arrow(size, value):
    if not isinstance(value, tuple) or len(value) != 3:
        return False
    state, sign, target = value
    return _is_state(size, state) and is_word(sign) and _is_state(size, target)


def _are_ends(size, value):
    if not isinstance(value, tuple):
        return False
    # States first: other items may be of kinds that a set does not take.
    return all([_is_state(size, item) for item in value]) and len(set(value)) == len(value)


def _read_arrows(size, arrows):
    """Return the state behind each state and sign of the arrows."""
    if not isinstance(arrows, tuple):
        raise NoArrow(0)
    targets = {}
    for index, arrow in enumerate(arrows):
        if index >= MOST_ARROWS or not _is_arrow(size, arrow):
            raise NoArrow(index)
        state, sign, target = arrow
        if (state, sign) in targets:
            raise NoArrow(index)
        targets[(state, sign)] = target
    return targets


class Machine:
    """A machine with the states 0 to size - 1, which begins at 0; it does not change."""

    def __init__(self, size, arrows=(), ends=()):
        if not is_integer(size) or not 1 <= size <= MOST_STATES:
            raise NoSize("a size is an integer from 1 to 5")
        targets = _read_arrows(size, arrows)
        if not _are_ends(size, ends):
            raise NoEnds("ends are a tuple of distinct states")
        self._size = size
        self._targets = targets
        self._arrows = tuple(sorted([(state, sign, targets[(state, sign)]) for state, sign in targets]))
        self._ends = tuple(sorted(ends))

    def size(self):
        """Return the number of its states."""
        return self._size

    def arrows(self):
        """Return the ascending tuple of its arrows (state, sign, state)."""
        return self._arrows

    def ends(self):
        """Return the ascending tuple of its ends."""
        return self._ends

    def signs(self):
        """Return the ascending list of the signs of its arrows."""
        return sorted({arrow[1] for arrow in self._arrows})

    def step(self, state, sign):
        """Return the state behind a sign, None if no arrow leads there."""
        if not _is_state(self._size, state):
            raise NoState("not a state of this machine")
        if not is_word(sign):
            raise NoSign("a sign is a word of 1 to 8 lowercase letters")
        return self._targets.get((state, sign))

    def writes(self, row):
        """Tell whether the signs of a row lead from the state 0 to an end."""
        check_row(row)
        state = 0
        for sign in row:
            state = self._targets.get((state, sign))
            if state is None:
                return False
        return state in self._ends

    def __eq__(self, other):
        if not isinstance(other, Machine):
            return False
        return self._size == other._size and self._arrows == other._arrows and self._ends == other._ends
