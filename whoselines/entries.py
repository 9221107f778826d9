"""Which values are entries of a band."""

from whoselines.errors import NoEntry
from whoselines.kinds import is_word


def entry_of(band, sign, name):
    """Return the entry of a line with this sign by this writer."""
    return (sign, name if sign in band.shown() else None)


def is_name(band, value):
    """Tell whether a value is the name of a writer of the band."""
    return is_word(value) and value in band.names()


def is_entry(band, value):
    """Tell whether a value is an entry of the band."""
    if not isinstance(value, tuple) or len(value) != 2:
        return False
    sign, name = value
    if not is_word(sign):
        return False
    if sign in band.shown():
        return is_name(band, name)
    return name is None


def check_log(band, log):
    """Raise NoEntry unless a value is a list of entries of the band."""
    if not isinstance(log, list):
        raise NoEntry(0)
    for index, item in enumerate(log):
        if not is_entry(band, item):
            raise NoEntry(index)
