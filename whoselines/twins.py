"""Two givings of the same entries, side by side."""


class Twins:
    """What two givings of the same entries lead to, over the standings of a weave; it does not change.

    A node is a number. Those below the number of standings are standings that two givings lead to that are the
    same so far. Each other one is a pair of standings, in no order, that two givings lead to that differ.
    """

    def __init__(self, weave):
        self._moves = weave.moves
        self._finals = weave.finals
        self._many = len(weave.moves)

    def starts(self):
        """Return the list of the nodes at the beginning; it is empty if the weave is."""
        return [0] if self._many > 0 else []

    def pair_of(self, node):
        """Return the two standings of a node."""
        if node < self._many:
            return node, node
        return divmod(node - self._many, self._many)

    def _parted(self, one, two):
        """Return the node of two givings that differ and lead to these two standings."""
        if one > two:
            one, two = two, one
        return (one + 1) * self._many + two

    def nexts(self, node):
        """Return a dict of the nodes to which one entry leads, each with such an entry."""
        if node < self._many:
            return self._nexts_of_same(node)
        one, two = self.pair_of(node)
        others = self._moves[two]
        found = {}
        for entry, lines in self._moves[one].items():
            if entry in others:
                for _, behind in lines:
                    for _, beside in others[entry]:
                        found[self._parted(behind, beside)] = entry
        return found

    def _nexts_of_same(self, number):
        found = {}
        for entry, lines in self._moves[number].items():
            for at, line in enumerate(lines):
                found[line[1]] = entry
                for other in lines[:at]:
                    found[self._parted(line[1], other[1])] = entry
        return found

    def partings(self):
        """Return the list of the nodes to which two unlike writers lead by one entry from the same standing."""
        found = {}
        for number in range(self._many):
            for node in self._nexts_of_same(number):
                if node >= self._many:
                    found[node] = True
        return list(found)

    def splits(self, node):
        """Return the list of (sign, node) to which two unlike writers lead by one entry."""
        one, two = self.pair_of(node)
        others = self._moves[two]
        found = []
        for entry, lines in self._moves[one].items():
            for name, behind in lines:
                for other, beside in others.get(entry, ()):
                    if name != other:
                        found.append((entry[0], self._parted(behind, beside)))
        return found

    def is_final(self, node):
        """Tell whether all writers are at ends at both standings."""
        one, two = self.pair_of(node)
        return one in self._finals and two in self._finals

    def is_doubt(self, node):
        """Tell whether two givings that differ lead to ends of all writers."""
        return node >= self._many and self.is_final(node)
