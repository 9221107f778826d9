"""Crowds of standings of two weaves, as the bits of numbers, and the shortest entries that tell the weaves apart."""

# Behind this many rules it takes longer to apply them than they save.
MOST_RULES = 1000


def _union(table, mask):
    """Return the union of the masks that a table has at the bits of a mask."""
    whole = 0
    while mask:
        low = mask & -mask
        whole |= table[low.bit_length() - 1]
        mask ^= low
    return whole


def _mask_of(numbers):
    mask = 0
    for number in numbers:
        mask |= 1 << number
    return mask


def _joined(one, two):
    """Return where entries lead in two weaves, the standings of the second one numbered behind the first one's.

    These are dicts, one for each standing, of lists of numbers.
    """
    moves = []
    for weave in (one, two):
        shift = len(moves)
        for under in weave.moves:
            moves.append({entry: [shift + behind for _, behind in lines] for entry, lines in under.items()})
    return moves


def _tables_on(moves):
    """Return, for each entry, a table that has for each standing the mask of those to which the entry leads."""
    tables = {}
    for number, under in enumerate(moves):
        for entry, targets in under.items():
            table = tables.setdefault(entry, [0] * len(moves))
            table[number] = _mask_of(targets)
    return tables


def _tables_back(moves):
    """Return, for each entry, a table that has for each standing the mask of those from which the entry leads to it."""
    tables = {}
    for number, under in enumerate(moves):
        for entry, targets in under.items():
            table = tables.setdefault(entry, [0] * len(moves))
            for target in targets:
                table[target] |= 1 << number
    return tables


def _narrowed(moves, back, above):
    """Return, for each standing, those above it from which each entry can lead above what it leads to here."""
    unions = {}
    found = []
    for number, under in enumerate(moves):
        mask = above[number]
        for entry, targets in under.items():
            for target in targets:
                key = (entry, above[target])
                if key not in unions:
                    unions[key] = _union(back[entry], above[target])
                mask &= unions[key]
        found.append(mask)
    return found


def _covers(moves, finals):
    """Return, for each standing, the mask of those that it covers: it leads to ends wherever they do, step by step."""
    full = (1 << len(moves)) - 1
    above = [finals if finals >> number & 1 else full for number in range(len(moves))]
    back = _tables_back(moves)
    narrower = _narrowed(moves, back, above)
    while narrower != above:
        above = narrower
        narrower = _narrowed(moves, back, above)
    covers = [0] * len(moves)
    for number, mask in enumerate(above):
        for other in range(len(moves)):
            if mask >> other & 1:
                covers[other] |= 1 << number
    return covers


class Crowds:
    """Pairs of crowds, one to which entries lead in a first weave and one in a second; it does not change.

    A crowd is the mask of the standings to which some entries lead. It also holds all that these cover, so crowds
    from which the same entries lead to ends are more often equal.
    """

    def __init__(self, one, two):
        moves = _joined(one, two)
        many = len(one.moves)
        finals = _mask_of(one.finals) | (_mask_of(two.finals) << many)
        covers = _covers(moves, finals)
        self._finals = finals
        self._tables = {
            entry: [_union(covers, mask) for mask in table] for entry, table in _tables_on(moves).items()
        }
        self._start = (covers[0] if one.moves else 0, covers[many] if two.moves else 0)

    def start(self):
        """Return the pair at the beginning."""
        return self._start

    def nexts(self, pair):
        """Return a dict of the pairs to which one entry leads, each with such an entry."""
        found = {}
        for entry, table in self._tables.items():
            found[(_union(table, pair[0]), _union(table, pair[1]))] = entry
        return found

    def are_apart(self, pair):
        """Tell whether just one crowd of the pair has a standing at ends of all writers."""
        return (pair[0] & self._finals == 0) != (pair[1] & self._finals == 0)


def _grown(rules, mask):
    """Return all that is in a crowd by some rules: (part, whole) says that a crowd with this part leads on as whole."""
    left = rules
    while True:
        before = mask
        rest = []
        for part, whole in left:
            if part & ~mask:
                rest.append((part, whole))
            else:
                mask |= whole
        if mask == before:
            return mask
        left = rest


def _are_alike(rules, pair):
    """Tell whether rules show that the same entries lead to ends from both crowds of a pair."""
    one, two = pair
    if one == two:
        return True
    if len(rules) > MOST_RULES or len(rules) == 0:
        return False
    return two & ~_grown(rules, one) == 0 and one & ~_grown(rules, two) == 0


def _entries_to(came, pair):
    entries = []
    while came[pair] is not None:
        pair, entry = came[pair]
        entries.append(entry)
    return entries[::-1]


def shortest_apart(one, two):
    """Return shortest entries that lead to ends in just one of two weaves, None if there are none.

    The rules are the pairs that were gone through. A pair that follows from them needs no look at what is behind it:
    entries that tell it apart tell one of them apart, too, and those came by as few entries or fewer.
    """
    crowds = Crowds(one, two)
    came = {crowds.start(): None}
    if crowds.are_apart(crowds.start()):
        return []
    queue = [crowds.start()]
    rules = []
    at = 0
    while at < len(queue):
        pair = queue[at]
        at += 1
        if _are_alike(rules, pair):
            continue
        rules.extend([(side, pair[0] | pair[1]) for side in pair])
        following = crowds.nexts(pair)
        for after in following:
            if after not in came:
                came[after] = (pair, following[after])
                if crowds.are_apart(after):
                    return _entries_to(came, after)
                queue.append(after)
    return None
