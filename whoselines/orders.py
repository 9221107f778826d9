"""Which texts are orders of a desk."""

from whoselines.bands import MOST_WRITERS
from whoselines.errors import NoOrder
from whoselines.kinds import are_distinct_words, is_word
from whoselines.machines import MOST_STATES
from whoselines.texts import entry_in

GREATEST_STATE = 99
# What stands behind the first word; band, line and writers have forms of their own.
FORMS = {
    "machine": ("name", "size"),
    "arrow": ("name", "state", "sign", "state"),
    "end": ("name", "state"),
    "bar": ("name", "name"),
    "show": ("sign",),
    "log": (),
    "count": (),
    "owners": (),
    "sure": (),
    "open": (),
    "lots": (),
    "undo": (),
}


def _is_number(word, least, most):
    """Tell whether a word is one of these numbers, as it is written."""
    return word in [str(number) for number in range(least, most + 1)]


def _is_of_kind(kind, word):
    if kind == "size":
        return _is_number(word, 1, MOST_STATES)
    if kind == "state":
        return _is_number(word, 0, GREATEST_STATE)
    return is_word(word)


def _has_form(form, words):
    return len(words) == len(form) and all([_is_of_kind(kind, word) for kind, word in zip(form, words)])


def _is_line(words):
    entry = entry_in(words)
    return entry is not None and is_word(entry[0]) and (entry[1] is None or is_word(entry[1]))


def _is_order(first, words):
    """Tell whether a first word and those behind it are an order."""
    if first == "band":
        return 1 <= len(words) <= MOST_WRITERS and are_distinct_words(tuple(words))
    if first == "line":
        return _is_line(words)
    if first == "writers":
        return len(words) > 0 and all([is_word(word) for word in words])
    return first in FORMS and _has_form(FORMS[first], words)


def read_order(text):
    """Return the first word of an order and the list of those behind it."""
    if not isinstance(text, str):
        raise NoOrder("an order is a string")
    words = text.split(" ")
    if not _is_order(words[0], words[1:]):
        raise NoOrder("not an order")
    return words[0], words[1:]
