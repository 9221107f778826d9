"""Bands: writers with names, who may not write behind whom, and which signs show names."""

from whoselines.errors import NoBarred, NoName, NoShown, NoWriter
from whoselines.kinds import are_distinct_words, is_word
from whoselines.machines import Machine

MOST_WRITERS = 3


def _is_writer(value):
    if not isinstance(value, tuple) or len(value) != 2:
        return False
    name, machine = value
    return is_word(name) and isinstance(machine, Machine)


def _read_writers(writers):
    """Return the machine of each name, in the order of the writers."""
    if not isinstance(writers, tuple) or len(writers) == 0:
        raise NoWriter(0)
    machines = {}
    for index, writer in enumerate(writers):
        if index >= MOST_WRITERS or not _is_writer(writer):
            raise NoWriter(index)
        name, machine = writer
        if name in machines:
            raise NoWriter(index)
        machines[name] = machine
    return machines


def _is_pair(machines, value):
    if not isinstance(value, tuple) or len(value) != 2:
        return False
    # Words first: other items may be of kinds that are no keys.
    return all([is_word(name) and name in machines for name in value])


def _are_barred(machines, value):
    if not isinstance(value, tuple):
        return False
    return all([_is_pair(machines, item) for item in value]) and len(set(value)) == len(value)


class Band:
    """One to three writers in their order; it does not change."""

    def __init__(self, writers, barred=(), shown=()):
        machines = _read_writers(writers)
        if not _are_barred(machines, barred):
            raise NoBarred("barred is a tuple of distinct pairs of names of writers")
        if not are_distinct_words(shown):
            raise NoShown("shown is a tuple of distinct words")
        self._names = tuple(machines)
        self._machines = machines
        self._barred = tuple(sorted(barred))
        self._shown = tuple(sorted(shown))

    def names(self):
        """Return the tuple of the names, in their order."""
        return self._names

    def machine(self, name):
        """Return the machine of the writer with this name."""
        if not is_word(name) or name not in self._machines:
            raise NoName("not a name of this band")
        return self._machines[name]

    def barred(self):
        """Return the ascending tuple of the barred pairs."""
        return self._barred

    def shown(self):
        """Return the ascending tuple of the signs that show names."""
        return self._shown

    def signs(self):
        """Return the ascending list of the signs of all machines."""
        return sorted({sign for name in self._names for sign in self._machines[name].signs()})

    def showing(self, signs):
        """Return the band that shows these signs as well."""
        if not are_distinct_words(signs):
            raise NoShown("the signs are a tuple of distinct words")
        writers = tuple([(name, self._machines[name]) for name in self._names])
        return Band(writers, self._barred, tuple(sorted(set(self._shown) | set(signs))))

    def __eq__(self, other):
        if not isinstance(other, Band):
            return False
        if self._names != other._names or self._machines != other._machines:
            return False
        return self._barred == other._barred and self._shown == other._shown
