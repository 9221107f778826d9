"""Pieces of logs, and mends of lists with lost or foreign lines."""

from whoselines.entries import check_log, entry_of, is_name
from whoselines.kinds import is_word
from whoselines.mending import Mending
from whoselines.places import is_right, owners_on, walks
from whoselines.weaves import log_weave, weave_of

STEP_SIZES = {"keep": 2, "foreign": 1, "lost": 3}


def _piece_walks(weave, log):
    """Return, for each place between lines, a dict of the standings there of all right givings of logs around."""
    everywhere = {number: True for number in range(len(weave.moves))}
    return walks(weave, log, everywhere, everywhere)


def is_piece(band, log):
    """Tell whether these entries stand side by side in some log."""
    check_log(band, log)
    return len(_piece_walks(log_weave(band), log)[0]) > 0


def piece_owners(band, log):
    """Return, for each line, the list of the names that it has in some right giving of some log with this piece."""
    check_log(band, log)
    weave = log_weave(band)
    return owners_on(weave, log, _piece_walks(weave, log), band.names())


def least_mend(band, log):
    """Return a right mend with as few steps other than keep as any, None if the band has no log."""
    check_log(band, log)
    weave = log_weave(band)
    if not weave.moves:
        return None
    return Mending(weave, log).steps()


def _step_kind(step):
    """Return the first word of a step, None for a value that is not as long as such a step."""
    if not isinstance(step, tuple) or len(step) == 0 or not is_word(step[0]):
        return None
    if STEP_SIZES.get(step[0]) != len(step):
        return None
    return step[0]


def _is_step(band, step):
    """Tell whether a value is a step, with names of the band."""
    kind = _step_kind(step)
    if kind == "lost" and not is_word(step[1]):
        return False
    return kind == "foreign" or (kind is not None and is_name(band, step[-1]))


def _lines_of(band, log, mend):
    """Return the list of (entry, name) of the lines of a mend, None if a value is no mend of this list."""
    if not isinstance(mend, list) or not all([_is_step(band, step) for step in mend]):
        return None
    if len([step for step in mend if step[0] != "lost"]) != len(log):
        return None
    lines = []
    at = 0
    for step in mend:
        if step[0] == "lost":
            lines.append((entry_of(band, step[1], step[2]), step[2]))
        else:
            if step[0] == "keep":
                lines.append((log[at], step[1]))
            at += 1
    return lines


def is_mend(band, log, mend):
    """Tell whether a value is a right mend of a list of entries."""
    check_log(band, log)
    lines = _lines_of(band, log, mend)
    if lines is None:
        return False
    return is_right(weave_of(band), [entry for entry, _ in lines], [name for _, name in lines])
