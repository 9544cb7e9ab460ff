"""Graphs of steps: what can be come to in them, where they turn, and their longest ways.

A graph is a dict from its nodes to lists of steps; a step is a tuple that begins with
the number of its rows and the node to which it leads. What is found is a dict from
nodes to tuples (rows, node before, step): the rows of a way to the node, and how its
last step goes; both None where the way begins.
"""

from maskedlevels.steps import greater


def spread(first, steps_of):
    """How all nodes are found from a first one, by few steps; a function tells the steps of a node."""
    found = {first: (0, None, None)}
    todo = [first]
    while todo:
        reached = []
        for node in todo:
            for step in steps_of(node):
                if step[1] not in found:
                    found[step[1]] = (found[node][0] + step[0], node, step)
                    reached.append(step[1])
        todo = reached
    return found


def way_in(found, node):
    """A tuple (node, steps): where the way that was found to a node begins, and its steps."""
    steps = []
    _, before, step = found[node]
    while before is not None:
        steps.append(step)
        node = before
        _, before, step = found[node]
    return (node, steps[::-1])


def left_in_order(graph):
    """All nodes, each one behind those that are found from it for the first time."""
    left = []
    seen = {}
    for root in graph:
        todo = [(root, False)]
        while todo:
            node, is_done = todo.pop()
            if is_done:
                left.append(node)
            elif node not in seen:
                seen[node] = True
                todo.append((node, True))
                todo.extend([(step[1], False) for step in graph[node] if step[1] not in seen])
    return left


def turned_about(graph):
    """A dict from each node to the list of those from which a step leads to it."""
    found = {node: [] for node in graph}
    for node, steps in graph.items():
        for step in steps:
            found[step[1]].append(node)
    return found


def ring_with(before, root, taken):
    """All nodes that are not taken yet and from which a node is had; they are taken now."""
    taken[root] = True
    ring = [root]
    todo = [root]
    while todo:
        behind = todo.pop()
        for node in before[behind]:
            if node not in taken:
                taken[node] = True
                ring.append(node)
                todo.append(node)
    return ring


def rings_of(graph):
    """Lists of nodes that can be had from one another; no step leads from a list to an earlier one."""
    before = turned_about(graph)
    taken = {}
    rings = []
    # Those that were left last are had from none of the others, but for those of their own ring.
    for root in left_in_order(graph)[::-1]:
        if root not in taken:
            rings.append(ring_with(before, root, taken))
    return rings


def turning(graph):
    """A tuple (node, step) for each step with rows that can be done again and again."""
    found = []
    for ring in rings_of(graph):
        here = {node: True for node in ring}
        for node in ring:
            found.extend([(node, step) for step in graph[node] if step[0] > 0 and step[1] in here])
    return found


def farthest(graph, firsts):
    """The ways with the most rows from some nodes on, in a graph in which no step with rows is turning."""
    found = {node: (0, None, None) for node in firsts}
    for ring in rings_of(graph):
        here = {node: True for node in ring}
        todo = [node for node in ring if node in found]
        while todo:
            node = todo.pop()
            for step in graph[node]:
                rows = found[node][0] + step[0]
                if step[1] not in found or rows > found[step[1]][0]:
                    found[step[1]] = (rows, node, step)
                    if step[1] in here:
                        todo.append(step[1])
    return found


def most_behind(graph, least):
    """The most rows of ways from each node on, at least what least tells of it; no step with rows is turning."""
    found = {}
    # What a ring leads to is worked out ahead of it.
    for ring in rings_of(graph)[::-1]:
        here = {node: True for node in ring}
        most = 0
        for node in ring:
            most = greater(most, least.get(node, 0))
            for step in graph[node]:
                if step[1] not in here:
                    most = greater(most, step[0] + found[step[1]])
        for node in ring:
            found[node] = most
    return found


def most_ahead(firsts, steps_of):
    """The ways with the most rows from some nodes on, where no steps lead back to a node.

    A dict from nodes to tuples (rows, step): how many rows they are, and the first step,
    None if the way ends there. A function tells the steps of a node; they are not kept.
    """
    found = {}
    todo = [(node, None) for node in firsts]
    while todo:
        node, steps = todo.pop()
        if node in found:
            continue
        if steps is None:
            steps = steps_of(node)
            todo.append((node, steps))
            todo.extend([(step[1], None) for step in steps if step[1] not in found])
        else:
            found[node] = best_ahead(found, steps)
    return found


def best_ahead(found, steps):
    """The most rows of ways that begin with one of some steps, and this step, by what is found of those behind them."""
    most = 0
    best = None
    for step in steps:
        rows = step[0] + found[step[1]][0]
        if rows > most:
            most = rows
            best = step
    return (most, best)
