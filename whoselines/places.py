"""Where the writers can stand at each place between the lines of a list of entries."""


def _is_led(weave, number, entry, goals):
    return any([behind in goals for _, behind in weave.moves[number].get(entry, ())])


def walks(weave, log, firsts, lasts):
    """Return, for each place between lines, a dict of the numbers of the standings of all walks by these entries.

    A walk goes from one of the standings firsts to one of the standings lasts, two dicts.
    """
    ahead = [firsts]
    for entry in log:
        before = ahead[-1]
        ahead.append({
            behind: True for number in before for _, behind in weave.moves[number].get(entry, ())
        })
    last = {number: True for number in ahead[-1] if number in lasts}
    kept = [last]
    for at in reversed(range(len(log))):
        goals = kept[-1]
        kept.append({number: True for number in ahead[at] if _is_led(weave, number, log[at], goals)})
    return kept[::-1]


def owners_on(weave, log, kept, names):
    """Return, for each line, the list of the names that it has on the walks, in the order of the names."""
    owners = []
    for at, entry in enumerate(log):
        found = {}
        for number in kept[at]:
            for name, behind in weave.moves[number].get(entry, ()):
                if behind in kept[at + 1]:
                    found[name] = True
        owners.append([name for name in names if name in found])
    return owners


def is_right(weave, log, giving):
    """Tell whether lines with these entries and names lead from the beginning to ends of all writers."""
    standing = 0
    for entry, name in zip(log, giving):
        behind = [line[1] for line in weave.moves[standing].get(entry, ()) if line[0] == name]
        if not behind:
            return False
        standing = behind[0]
    return standing in weave.finals
