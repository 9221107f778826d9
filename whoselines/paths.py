"""Walks over nodes: which nodes are led to, the shortest walk, the longest one."""


def led_to(nexts, starts):
    """Return a dict of the nodes that are led to from some nodes, these among them, nearer ones ahead.

    nexts tells of a node the nodes behind it.
    """
    found = {node: True for node in starts}
    queue = list(found)
    at = 0
    while at < len(queue):
        for after in nexts(queue[at]):
            if after not in found:
                found[after] = True
                queue.append(after)
        at += 1
    return found


def spread(links, starts):
    """Return what led_to does, where links has, for each node, those behind it."""
    return led_to(lambda node: links[node], starts)


def _way_to(came, starts, goal):
    """Return the labels from a start to the goal; the goal may itself be a start."""
    labels = []
    node = goal
    while True:
        node, label = came[node]
        labels.append(label)
        if node in starts:
            return labels[::-1]


def shortest_walk(nexts, starts, is_goal):
    """Return the labels of a shortest walk of one step or more from a start to a goal, None if there is none.

    nexts tells of a node the dict of the nodes behind it, each with a label of a step that leads there.
    """
    came = {}
    queue = list(starts)
    at = 0
    while at < len(queue):
        node = queue[at]
        steps = nexts(node)
        for after in steps:
            if after not in came:
                came[after] = (node, steps[after])
                if is_goal(after):
                    return _way_to(came, starts, after)
                queue.append(after)
        at += 1
    return None


def longest_walks(nexts, starts):
    """Return how many steps the longest walks have from each node that is led to, and None.

    If a walk can come back to a node, return None and such a node.
    """
    ranks = {}
    stack = list(starts)
    while stack:
        node = stack[-1]
        if node not in ranks:
            # None marks the nodes on the way to this one: to come to such a node closes a ring.
            ranks[node] = None
            for after in nexts(node):
                if after not in ranks:
                    stack.append(after)
                elif ranks[after] is None:
                    return None, after
        else:
            stack.pop()
            if ranks[node] is None:
                ranks[node] = max([1 + ranks[after] for after in nexts(node)], default=0)
    return ranks, None
