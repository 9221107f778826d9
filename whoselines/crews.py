"""Writers of one kind: the fewest, and all sets of them, that can have written a row."""

from whoselines.errors import TooLong
from whoselines.kinds import check_row, is_integer

LONGEST_CREW_ROW = 24
# A crowd is a number that has, for each state, how many writers are there: at most 24, in 5 bits.
COUNT_BITS = 5


def _check_crew_row(row):
    check_row(row)
    if len(row) > LONGEST_CREW_ROW:
        raise TooLong("a row has at most 24 signs here")


def _one_at(state):
    """Return the crowd of one writer, at this state."""
    return 1 << (COUNT_BITS * state)


def _many_at(crowd, state):
    """Return how many writers of a crowd are at this state."""
    return (crowd >> (COUNT_BITS * state)) & ((1 << COUNT_BITS) - 1)


def _size_of(crowd):
    """Return how many writers a crowd has."""
    size = 0
    while crowd:
        size += _many_at(crowd, 0)
        crowd >>= COUNT_BITS
    return size


def _steps(machine, sign):
    """Return the list of (state, what the crowd gains) for each state from which an arrow with this sign leads."""
    steps = []
    for state in range(machine.size()):
        target = machine.step(state, sign)
        if target is not None:
            steps.append((state, _one_at(target) - _one_at(state)))
    return steps


def _new_writer(machine, sign):
    """Return the crowd of a writer whose first line has this sign, None if there is none."""
    target = machine.step(0, sign)
    return None if target is None else _one_at(target)


def _crowds(machine, row):
    """Return, for each place between signs, a dict of the crowds there, each with how many crews lead to it."""
    found = [{0: 1}]
    for sign in row:
        steps = _steps(machine, sign)
        new = _new_writer(machine, sign)
        after = {}
        for crowd, crews in found[-1].items():
            for state, gain in steps:
                many = _many_at(crowd, state)
                if many > 0:
                    after[crowd + gain] = after.get(crowd + gain, 0) + crews * many
            if new is not None:
                after[crowd + new] = after.get(crowd + new, 0) + crews
        found.append(after)
    return found


def _is_at_ends(machine, crowd):
    """Tell whether all writers of a crowd are at ends."""
    ends = machine.ends()
    return all([state in ends or _many_at(crowd, state) == 0 for state in range(machine.size())])


def _least_crowd(machine, crowds):
    """Return a crowd of the fewest writers, all at ends, None if there is none."""
    return min([crowd for crowd in crowds if _is_at_ends(machine, crowd)], key=_size_of, default=None)


def fewest_writers(machine, row):
    """Return the least number of writers with this machine that can have written a row, None if none can."""
    _check_crew_row(row)
    crowd = _least_crowd(machine, _crowds(machine, row)[-1])
    return None if crowd is None else _size_of(crowd)


def _line_to(machine, sign, before, crowd):
    """Return the state, None for a new writer's, ahead of a line by which a crowd was come to, and the crowd there."""
    new = _new_writer(machine, sign)
    if new is not None and crowd - new in before:
        return None, crowd - new
    # What is no crowd is none of those before, so one of these was there with a writer at its state.
    return [
        (state, crowd - gain) for state, gain in _steps(machine, sign)
        if crowd - gain in before and _many_at(crowd - gain, state) > 0
    ][0]


def _states_to(machine, row, crowds, crowd):
    """Return, for each sign, the state of the writer ahead of it, None for a new one, on a way to this crowd."""
    states = []
    for at in reversed(range(len(row))):
        state, crowd = _line_to(machine, row[at], crowds[at], crowd)
        states.append(state)
    return states[::-1]


def crew(machine, row):
    """Return a number for each sign, who wrote it, with as few writers as any; None if none can."""
    _check_crew_row(row)
    crowds = _crowds(machine, row)
    crowd = _least_crowd(machine, crowds[-1])
    if crowd is None:
        return None
    numbers = []
    writers = []
    for sign, state in zip(row, _states_to(machine, row, crowds, crowd)):
        if state is None:
            writers.append(0)
        number = len(writers) - 1 if state is None else writers.index(state)
        writers[number] = machine.step(writers[number], sign)
        numbers.append(number)
    return numbers


def is_crew(machine, row, numbers):
    """Tell whether a value tells of each sign who wrote it, in writers of one machine that all write rows of it."""
    check_row(row)
    if not isinstance(numbers, list) or len(numbers) != len(row):
        return False
    states = []
    for sign, number in zip(row, numbers):
        if not is_integer(number) or not 0 <= number <= len(states):
            return False
        if number == len(states):
            states.append(0)
        states[number] = machine.step(states[number], sign)
        if states[number] is None:
            return False
    return all([state in machine.ends() for state in states])


def crews_count(machine, row):
    """Return how many lists is_crew allows for a row."""
    _check_crew_row(row)
    crowds = _crowds(machine, row)[-1]
    return sum([crowds[crowd] for crowd in crowds if _is_at_ends(machine, crowd)])
