"""The search for a mend with as few steps other than keep as any."""


class Mending:
    """Where mends of a list of entries can come to, in rounds with one step more that is not keep.

    A node is a tuple of how many entries were gone through and of a standing of the weave. The nodes that were come
    to are kept, each with the node ahead of it and the step between.
    """

    def __init__(self, weave, log):
        self._moves = weave.moves
        self._finals = weave.finals
        self._log = list(log)
        self._came = {}
        self._lost = [
            {behind: ("lost", entry[0], name) for entry, lines in under.items() for name, behind in lines}
            for under in weave.moves
        ]

    def steps(self):
        """Return the steps of a mend; the weave has a standing."""
        self._came[(0, 0)] = None
        nodes = self._kept_on([(0, 0)])
        while True:
            for node in nodes:
                if node[0] == len(self._log) and node[1] in self._finals:
                    return self._steps_to(node)
            nodes = self._kept_on(self._gone_wrong(nodes))

    def _is_new(self, node, before, step):
        """Tell whether no mend came to a node yet; keep how this one does."""
        if node in self._came:
            return False
        self._came[node] = (before, step)
        return True

    def _kept_on(self, nodes):
        """Return some nodes and those that are come to from them by keep alone."""
        found = list(nodes)
        place = 0
        while place < len(found):
            before = found[place]
            at, number = before
            if at < len(self._log):
                for name, behind in self._moves[number].get(self._log[at], ()):
                    if self._is_new((at + 1, behind), before, ("keep", name)):
                        found.append((at + 1, behind))
            place += 1
        return found

    def _gone_wrong(self, nodes):
        """Return the nodes that are come to by one step other than keep."""
        found = []
        for before in nodes:
            at, number = before
            if at < len(self._log) and self._is_new((at + 1, number), before, ("foreign",)):
                found.append((at + 1, number))
            for behind, step in self._lost[number].items():
                if self._is_new((at, behind), before, step):
                    found.append((at, behind))
        return found

    def _steps_to(self, node):
        steps = []
        while self._came[node] is not None:
            node, step = self._came[node]
            steps.append(step)
        return steps[::-1]
