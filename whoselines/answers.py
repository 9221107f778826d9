"""The orders that ask about what lies on a desk: each returns an answer."""

from whoselines.boards import band_on, log_on, machine_on
from whoselines.crews import fewest_writers
from whoselines.doubts import first_doubt, least_lots, open_for
from whoselines.logs import count, owners
from whoselines.texts import log_text


def _row_of(words):
    return " ".join(words) if words else "-"


def _tell_log(board, _):
    text = log_text(band_on(board), log_on(board))
    return text if text else "nothing"


def _tell_count(board, _):
    return str(count(band_on(board), log_on(board)))


def _tell_owners(board, _):
    found = owners(band_on(board), log_on(board))
    return "\n".join([_row_of(names) for names in found]) if found else "nothing"


def _tell_sure(board, _):
    doubt = first_doubt(band_on(board))
    return "sure" if doubt is None else f"doubt {len(doubt[0])}"


def _tell_open(board, _):
    lines = open_for(band_on(board))
    return "open for ever" if lines is None else f"open {lines}"


def _tell_lots(board, _):
    return "\n".join([_row_of(lot) for lot in least_lots(band_on(board))])


def _tell_writers(board, words):
    many = fewest_writers(machine_on(board, words[0]), words[1:])
    return "none" if many is None else str(many)


ANSWERS = {
    "log": _tell_log,
    "count": _tell_count,
    "owners": _tell_owners,
    "sure": _tell_sure,
    "open": _tell_open,
    "lots": _tell_lots,
    "writers": _tell_writers,
}


def answered(board, first, words):
    """Return the answer to an order."""
    answer = ANSWERS[first]
    return answer(board, words)
