"""The orders that change what lies on a desk: each returns the board behind it, and an answer."""

from whoselines.bands import Band
from whoselines.boards import band_on, check_names_on, log_on, machine_on, with_band, with_line, with_machine
from whoselines.entries import is_entry
from whoselines.errors import NoEntry, NoShown, NoState
from whoselines.machines import Machine
from whoselines.texts import entry_in


def _put_machine(board, words):
    name, size = words
    return with_machine(board, name, Machine(int(size))), f"machine {name}"


def _state_of(machine, word):
    state = int(word)
    if state >= machine.size():
        raise NoState("not a state of this machine")
    return state


def _put_arrow(board, words):
    name, state_word, sign, target_word = words
    machine = machine_on(board, name)
    state = _state_of(machine, state_word)
    target = _state_of(machine, target_word)
    # An arrow that cannot be taken raises NoArrow here: its index is the number of those ahead of it.
    more = Machine(machine.size(), machine.arrows() + ((state, sign, target),), machine.ends())
    return with_machine(board, name, more), f"arrows {len(more.arrows())}"


def _put_end(board, words):
    name, state_word = words
    machine = machine_on(board, name)
    state = _state_of(machine, state_word)
    # A state that is an end already raises NoEnds here.
    more = Machine(machine.size(), machine.arrows(), machine.ends() + (state,))
    return with_machine(board, name, more), f"ends {len(more.ends())}"


def _put_band(board, words):
    band = Band(tuple([(name, machine_on(board, name)) for name in words]))
    return with_band(board, band), f"band {len(words)}"


def _bar(board, words):
    band = band_on(board)
    check_names_on(board, words)
    writers = tuple([(name, band.machine(name)) for name in band.names()])
    # A pair that is barred already raises NoBarred here.
    more = Band(writers, band.barred() + (tuple(words),), band.shown())
    return with_band(board, more), f"barred {len(more.barred())}"


def _show(board, words):
    band = band_on(board)
    if words[0] in band.shown():
        raise NoShown("this sign is shown already")
    more = band.showing(tuple(words))
    return with_band(board, more), f"shown {len(more.shown())}"


def _put_line(board, words):
    band = band_on(board)
    entry = entry_in(words)
    if entry[1] is not None:
        check_names_on(board, [entry[1]])
    many = len(log_on(board))
    if not is_entry(band, entry):
        raise NoEntry(many)
    return with_line(board, entry), f"lines {many + 1}"


CHANGES = {
    "machine": _put_machine,
    "arrow": _put_arrow,
    "end": _put_end,
    "band": _put_band,
    "bar": _bar,
    "show": _show,
    "line": _put_line,
}


def is_change(first):
    """Tell whether orders with this first word change what lies on a desk."""
    return first in CHANGES


def changed(board, first, words):
    """Return the board behind an order, and the answer."""
    change = CHANGES[first]
    return change(board, words)
