"""Scripts with the fewest moves from the start of a program to entries."""

from maskedlevels.nearest import Nearest


def approaches(flow):
    """How a run comes to each beginning with the fewest moves.

    A dict from the beginnings to tuples (moves, entry, move): how many there are, the
    entry at which the frame begins, and the move with which it does; both None for
    the main procedure at the start.
    """
    starts = {}
    for entry, move, begun in flow.begun():
        starts.setdefault(entry[0], []).append((entry, move, begun))
    found = {}
    queue = Nearest()
    queue.put(0, (flow.root(), None, None))
    while queue.is_filled():
        far, (beginning, below, by) = queue.take()
        if beginning not in found:
            found[beginning] = (far, below, by)
            for entry, move, begun in starts.get(beginning, []):
                queue.put(far + flow.far(entry) + 1, (begun, entry, move))
    return found


def way_to(flow, found, entry):
    """The script that goes by the approaches that were found, and ends at an entry."""
    parts = [flow.moves_to(entry)]
    _, below, move = found[entry[0]]
    while below is not None:
        parts.append([*flow.moves_to(below), move])
        _, below, move = found[below[0]]
    return [move for part in parts[::-1] for move in part]


def way_over(flow, found, entry, below):
    """A script that ends at an entry of a frame that was begun over others.

    Below are tuples (entry, move) of those others, the highest first: where they are, and
    the move with which they begin the next frame.
    """
    if not below:
        return way_to(flow, found, entry)
    script = way_to(flow, found, below[-1][0])
    above = [entry, *[other for other, _ in below[:-1]]]
    for inner, (_, move) in zip(above[::-1], below[::-1]):
        script.extend([move, *flow.moves_to(inner)])
    return script


def moves_before(flow, found, entry):
    """How many moves a run makes at least to come to an entry, with the approaches that were found."""
    return found[entry[0]][0] + flow.far(entry)


def nearest_of(flow, found, entries):
    """One of some entries to which a run comes with the fewest moves; there is at least one."""
    nearest = entries[0]
    least = moves_before(flow, found, nearest)
    for entry in entries:
        far = moves_before(flow, found, entry)
        if far < least:
            nearest = entry
            least = far
    return nearest


def script_to_any(flow, entries):
    """A script with the fewest moves to one of some entries of a flow of all runs; None if there are none."""
    if not entries:
        return None
    found = approaches(flow)
    return way_to(flow, found, nearest_of(flow, found, entries))
