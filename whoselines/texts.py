"""Texts of machines, bands and lists of entries."""

from whoselines.bands import MOST_WRITERS, Band
from whoselines.entries import check_log, is_entry
from whoselines.errors import NoText
from whoselines.kinds import is_word
from whoselines.machines import MOST_ARROWS, MOST_STATES, Machine


def _machine_rows(machine):
    rows = [f"size {machine.size()}"]
    rows.extend([f"{state} {sign} {target}" for state, sign, target in machine.arrows()])
    rows.append(" ".join(["ends"] + [str(state) for state in machine.ends()]))
    return rows


def machine_text(machine):
    """Return the text of a machine."""
    return "\n".join(_machine_rows(machine))


def band_text(band):
    """Return the text of a band."""
    rows = []
    for name in band.names():
        rows.append(f"writer {name}")
        rows.extend(_machine_rows(band.machine(name)))
    rows.extend([f"barred {one} {two}" for one, two in band.barred()])
    rows.append(" ".join(["shown"] + list(band.shown())))
    return "\n".join(rows)


def log_text(band, log):
    """Return the text of a list of entries."""
    check_log(band, log)
    return "\n".join([sign if name is None else f"{sign} by {name}" for sign, name in log])


def _rows_of(text):
    if not isinstance(text, str):
        raise NoText(0)
    return text.split("\n")


def _words_at(rows, at):
    """Return the words of a row; behind the last row they are those of an empty one, which is wrong everywhere."""
    return rows[at].split(" ") if at < len(rows) else [""]


def _are_ascending(items):
    return all([one < two for one, two in zip(items, items[1:])])


def _read_size(rows, at):
    words = _words_at(rows, at)
    for size in range(1, MOST_STATES + 1):
        if words == ["size", str(size)]:
            return size
    raise NoText(at)


def _state_of(size, word):
    """Return the state that a word tells, None if it tells none."""
    for state in range(size):
        if word == str(state):
            return state
    return None


def _arrow_of(size, words):
    """Return the arrow that words tell, None if they tell none."""
    if len(words) != 3 or not is_word(words[1]):
        return None
    state = _state_of(size, words[0])
    target = _state_of(size, words[2])
    if state is None or target is None:
        return None
    return (state, words[1], target)


def _read_arrows(rows, at, size):
    """Return the list of the arrows of the rows from one on, up to the first row that is none."""
    arrows = []
    while True:
        place = at + len(arrows)
        arrow = _arrow_of(size, _words_at(rows, place))
        if arrow is None:
            return arrows
        # The state and the sign alone: two arrows of a machine do not have both in common.
        if len(arrows) == MOST_ARROWS or (arrows and arrow[:2] <= arrows[-1][:2]):
            raise NoText(place)
        arrows.append(arrow)


def _read_ends(rows, at, size):
    words = _words_at(rows, at)
    ends = [_state_of(size, word) for word in words[1:]]
    if words[0] != "ends" or None in ends or not _are_ascending(ends):
        raise NoText(at)
    return tuple(ends)


def _read_machine_at(rows, at):
    """Return the machine whose text begins at a row, and the index of the row behind it."""
    size = _read_size(rows, at)
    arrows = _read_arrows(rows, at + 1, size)
    last = at + 1 + len(arrows)
    ends = _read_ends(rows, last, size)
    return Machine(size, tuple(arrows), ends), last + 1


def _check_none_left(rows, at):
    if at < len(rows):
        raise NoText(at)


def read_machine(text):
    """Return the machine with this text."""
    rows = _rows_of(text)
    machine, behind = _read_machine_at(rows, 0)
    _check_none_left(rows, behind)
    return machine


def _writer_of(words):
    """Return the name of a writer that words tell, None if they tell none."""
    if len(words) != 2 or words[0] != "writer" or not is_word(words[1]):
        return None
    return words[1]


def _read_writers(rows):
    """Return the dict of the machines of the writers from the first row on, and the index of the row behind them."""
    machines = {}
    at = 0
    while True:
        name = _writer_of(_words_at(rows, at))
        if name is None and machines:
            return machines, at
        if name is None or name in machines or len(machines) == MOST_WRITERS:
            raise NoText(at)
        machine, at = _read_machine_at(rows, at + 1)
        machines[name] = machine


def _read_barred(rows, at, names):
    """Return the list of the pairs of the rows from one on, up to the first row that is none."""
    barred = []
    while True:
        place = at + len(barred)
        words = _words_at(rows, place)
        if words[0] != "barred":
            return barred
        pair = tuple(words[1:])
        if len(pair) != 2 or not all([name in names for name in pair]) or (barred and pair <= barred[-1]):
            raise NoText(place)
        barred.append(pair)


def _read_shown(rows, at):
    words = _words_at(rows, at)
    shown = words[1:]
    if words[0] != "shown" or not all([is_word(sign) for sign in shown]) or not _are_ascending(shown):
        raise NoText(at)
    return tuple(shown)


def read_band(text):
    """Return the band with this text."""
    rows = _rows_of(text)
    machines, at = _read_writers(rows)
    barred = _read_barred(rows, at, list(machines))
    last = at + len(barred)
    shown = _read_shown(rows, last)
    _check_none_left(rows, last + 1)
    return Band(tuple(machines.items()), tuple(barred), shown)


def entry_in(words):
    """Return what the words of a line tell as an entry, right or not; None if they are not as many as a line has."""
    if len(words) == 1:
        return (words[0], None)
    if len(words) == 3 and words[1] == "by":
        return (words[0], words[2])
    return None


def read_log(band, text):
    """Return the list of entries of a band with this text."""
    rows = _rows_of(text)
    entries = [entry_in(row.split(" ")) for row in rows] if text else []
    for index, entry in enumerate(entries):
        if not is_entry(band, entry):
            raise NoText(index)
    return entries
