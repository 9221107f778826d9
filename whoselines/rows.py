"""The rows that a machine writes: counted, told by number, shortest, and of two machines apart."""

from whoselines.errors import NoLength, NoNumber
from whoselines.kinds import is_integer

LONGEST_ROW = 200


def _check_length(length):
    if not is_integer(length) or not 0 <= length <= LONGEST_ROW:
        raise NoLength("a length is an integer from 0 to 200")


def _counts(machine, length):
    """Return, for each length up to this one, how many rows lead from each state to an end."""
    ends = machine.ends()
    counts = [[1 if state in ends else 0 for state in range(machine.size())]]
    for _ in range(length):
        shorter = counts[-1]
        longer = [0] * machine.size()
        for arrow in machine.arrows():
            longer[arrow[0]] += shorter[arrow[2]]
        counts.append(longer)
    return counts


def rows_count(machine, length):
    """Return how many rows of this length the machine writes."""
    _check_length(length)
    return _counts(machine, length)[length][0]


def _take_arrow(arrows, counts, place):
    """Return the arrow of the row at this place, and the place among the rows that begin with it."""
    at = 0
    while place >= counts[arrows[at][2]]:
        place -= counts[arrows[at][2]]
        at += 1
    return arrows[at], place


def row_at(machine, length, number):
    """Return the row of this length at this place, from 0 on, in their order."""
    _check_length(length)
    counts = _counts(machine, length)
    if not is_integer(number) or not 0 <= number < counts[length][0]:
        raise NoNumber("a number is an integer from 0 on, below the count of the rows")
    row = []
    state = 0
    place = number
    for left in reversed(range(length)):
        # Arrows are ascending, so those of one state are in the order of their rows.
        arrows = [arrow for arrow in machine.arrows() if arrow[0] == state]
        arrow, place = _take_arrow(arrows, counts[left], place)
        row.append(arrow[1])
        state = arrow[2]
    return row


def shortest_row(machine):
    """Return the first of the shortest rows that the machine writes, None if it writes none."""
    # A shortest row comes to no state twice, so it has fewer signs than there are states.
    for length in range(machine.size()):
        if rows_count(machine, length) > 0:
            return row_at(machine, length, 0)
    return None


def _step(machine, state, sign):
    """Return the state behind a sign; None stands for where no arrow leads on."""
    if state is None:
        return None
    return machine.step(state, sign)


def _differ(machine, other, pair):
    """Tell whether just one of two machines has an end at its state of this pair."""
    return (pair[0] in machine.ends()) != (pair[1] in other.ends())


def row_apart(machine, other):
    """Return the first of the shortest rows that just one of two machines writes, None if there is none."""
    signs = sorted(set(machine.signs()) | set(other.signs()))
    rows = {(0, 0): []}
    queue = [(0, 0)]
    at = 0
    # Pairs of states come in the order of their first rows, shorter ones ahead: the first that differs tells.
    while at < len(queue):
        pair = queue[at]
        if _differ(machine, other, pair):
            return rows[pair]
        for sign in signs:
            reached = (_step(machine, pair[0], sign), _step(other, pair[1], sign))
            if reached not in rows:
                rows[reached] = rows[pair] + [sign]
                queue.append(reached)
        at += 1
    return None
