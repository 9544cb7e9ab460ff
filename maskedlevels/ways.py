"""Scripts with the fewest moves from the start of a program to entries."""

from maskedlevels.frames import main_beginning
from maskedlevels.nearest import Nearest


def approaches(program, flow):
    """How a run comes to each beginning with the fewest moves.

    A dict from the beginnings to tuples (moves, entry, move): how many there are, the
    entry at which the frame begins, and the move with which it does; both None for
    the main procedure at the start.
    """
    starts = {}
    for entry, move, begun in flow.begun():
        starts.setdefault(entry[0], []).append((entry, move, begun))
    found = {}
    queue = Nearest()
    queue.put(0, (main_beginning(program), None, None))
    while queue.is_filled():
        far, (beginning, below, by) = queue.take()
        if beginning not in found:
            found[beginning] = (far, below, by)
            for entry, move, begun in starts.get(beginning, []):
                queue.put(far + flow.far(entry) + 1, (begun, entry, move))
    return found


def way_to(flow, found, entry):
    """The script that goes by the approaches that were found, and ends at an entry."""
    parts = [flow.moves_to(entry)]
    _, below, move = found[entry[0]]
    while below is not None:
        parts.append([*flow.moves_to(below), move])
        _, below, move = found[below[0]]
    return [move for part in parts[::-1] for move in part]


def script_to_any(program, flow, entries):
    """A script with the fewest moves to one of some entries of a flow of all runs; None if there are none."""
    if not entries:
        return None
    found = approaches(program, flow)
    nearest = entries[0]
    least = None
    for entry in entries:
        far = found[entry[0]][0] + flow.far(entry)
        if least is None or far < least:
            nearest = entry
            least = far
    return way_to(flow, found, nearest)
