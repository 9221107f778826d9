"""Which values are integers, words and rows."""

from whoselines.errors import NoRow

LETTERS = "abcdefghijklmnopqrstuvwxyz"
LONGEST_WORD = 8


def is_integer(value):
    """Tell whether a value is an integer; True and False are none."""
    return isinstance(value, int) and not isinstance(value, bool)


def is_word(value):
    """Tell whether a value is a string of 1 to 8 lowercase letters."""
    if not isinstance(value, str) or not 1 <= len(value) <= LONGEST_WORD:
        return False
    return all([letter in LETTERS for letter in value])


def are_distinct_words(value):
    """Tell whether a value is a tuple of words, each of them once."""
    if not isinstance(value, tuple):
        return False
    # Words first: other items may be of kinds that a set does not take.
    return all([is_word(item) for item in value]) and len(set(value)) == len(value)


def check_row(row):
    """Raise NoRow unless a value is a list of words."""
    if not isinstance(row, list):
        raise NoRow(0)
    for index, item in enumerate(row):
        if not is_word(item):
            raise NoRow(index)
