"""A live log: lines and told names one by one, what they leave open, and undo."""

from whoselines.entries import check_log, is_entry, is_name
from whoselines.errors import NoEntry, NoIndex, NoName, NothingToUndo
from whoselines.kinds import is_integer
from whoselines.weaves import log_weave


def _lines_as(weave, number, entry, told):
    """Return the lines that an entry can be from a standing; told is the name of its writer, or None."""
    return [line for line in weave.moves[number].get(entry, ()) if told is None or line[0] == told]


def _ways_behind(weave, ways, entry, told):
    """Return, under each standing behind an entry, how many givings lead there, from the same ahead of it."""
    behind = {}
    for number, many in ways.items():
        for line in _lines_as(weave, number, entry, told):
            behind[line[1]] = behind.get(line[1], 0) + many
    return behind


class Live:
    """A log of a band that is written line by line, with the names that were told of its lines."""

    def __init__(self, band):
        # From all standings of this weave lines lead to ends, so all givings on it are open.
        self._weave = log_weave(band)
        self._band = band
        self._lines = []
        self._told = {}
        # For each place between lines, under each standing, how many open givings lead there: in the one list
        # whatever was told, in the other one those with all told names.
        beginning = {0: 1} if self._weave.moves else {}
        self._free_ways = [beginning]
        self._told_ways = [beginning]
        # For each call that can be taken back: how many lines and which told names there were ahead of it, and the
        # index of the first line that it changed.
        self._calls = []

    @property
    def band(self):
        """Return the band."""
        return self._band

    @property
    def entries(self):
        """Return the list of the lines."""
        return list(self._lines)

    def __len__(self):
        return len(self._lines)

    def add(self, entry):
        """Put a line at the end; return the number of open givings, whatever was told."""
        if not is_entry(self._band, entry):
            raise NoEntry(len(self._lines))
        return self._put([entry])

    def add_all(self, log):
        """Put all lines of a list at the end; return the number of open givings, whatever was told."""
        check_log(self._band, log)
        return self._put(log)

    def tell(self, index, name):
        """Say that a line is of this writer; return the number of open givings with all told names."""
        if not is_integer(index) or not 0 <= index < len(self._lines):
            raise NoIndex(index)
        if not is_name(self._band, name):
            raise NoName("not a name of the band")
        self._keep_call(index)
        self._told[index] = name
        self._tell_ways_from(index)
        return self.count()

    def undo(self):
        """Take back the last call that put lines there or told a name, and is not taken back."""
        if not self._calls:
            raise NothingToUndo("no call is left to take back")
        many, told, index = self._calls.pop()
        del self._lines[many:]
        del self._free_ways[many + 1:]
        self._told = told
        self._tell_ways_from(index)

    def count(self):
        """Return the number of open givings with all told names."""
        return sum(self._told_ways[-1].values())

    def is_log(self):
        """Tell whether the lines are a log with a right giving with all told names."""
        return any([number in self._weave.finals for number in self._told_ways[-1]])

    def owners(self):
        """Return, for each line, the list of the names that it has in open givings with all told names."""
        found = []
        kept = self._told_ways[-1]
        for index in reversed(range(len(self._lines))):
            before = {}
            names = {}
            for number in self._told_ways[index]:
                for name, behind in _lines_as(self._weave, number, self._lines[index], self._told.get(index)):
                    if behind in kept:
                        before[number] = True
                        names[name] = True
            found.append([name for name in self._band.names() if name in names])
            kept = before
        return found[::-1]

    def sure(self):
        """Return the ascending list of the indexes of the lines with just one name in such givings."""
        return [index for index, names in enumerate(self.owners()) if len(names) == 1]

    def next_signs(self):
        """Return the ascending list of the signs with which the lines can go on in such givings."""
        return sorted({entry[0] for number in self._told_ways[-1] for entry in self._weave.moves[number]})

    def _keep_call(self, index):
        self._calls.append((len(self._lines), self._told.copy(), index))

    def _put(self, lines):
        many = len(self._lines)
        self._keep_call(many)
        for sign, name in lines:
            self._lines.append((sign, name))
            self._free_ways.append(_ways_behind(self._weave, self._free_ways[-1], (sign, name), None))
        self._tell_ways_from(many)
        return sum(self._free_ways[-1].values())

    def _tell_ways_from(self, index):
        """Work out the ways with all told names anew behind the place ahead of this line."""
        del self._told_ways[index + 1:]
        for at in range(index, len(self._lines)):
            self._told_ways.append(
                _ways_behind(self._weave, self._told_ways[at], self._lines[at], self._told.get(at)))
