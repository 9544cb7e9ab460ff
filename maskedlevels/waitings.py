"""What frames do while a line waits and others are served ahead of it.

A node is a tuple (entry, left): left tells of each line that may be served ahead how
often it still may, in one number that has three bits for each of them. A step of a frame
is a tuple (rows, node behind, move, end): how many rows it has, the node of the same
frame to which it leads, the move with which it begins, and the node at the end of the
frame that this move begins, None for a row alone.
"""

from maskedlevels.frames import begun_at
from maskedlevels.frames import behind_frame
from maskedlevels.frames import behind_rows
from maskedlevels.frames import bound_at
from maskedlevels.frames import first_entry
from maskedlevels.frames import line_beginning
from maskedlevels.frames import row_of
from maskedlevels.graphs import farthest
from maskedlevels.graphs import most_ahead
from maskedlevels.graphs import way_in

# A wait may begin in frames that return in it, and end in frames that begin in it. So it
# first goes OUT of frames, and from some frame on INTO frames: what begins in it and returns
# in it are steps of frames. A spot is a tuple (OUT or INTO, node), and a step between spots
# a tuple (rows, spot behind, step of a frame or None, (entry, move) of the frame below or None).
OUT = "out"
INTO = "into"

BITS = 3
# The highest one of the bits of a line, which no number up to 3 has.
FENCE = 4


def graph_from(firsts, steps_of):
    """The graph of all nodes that are had from some first ones; a function tells the steps of a node."""
    graph = {}
    todo = list(firsts)
    while todo:
        node = todo.pop()
        if node not in graph:
            graph[node] = steps_of(node)
            todo.extend([step[1] for step in graph[node] if step[1] not in graph])
    return graph


class Waiting:
    """The ways of frames while a line waits, in a program in which no wait of it is without end."""

    def __init__(self, program, flow, line, allowance):
        self._program = program
        self._flow = flow
        self._level = program.line_of(line)[0]
        # Lines that may not be served at all need no number.
        self._ahead = [other for other in program.lines() if allowance.get(other, 0) > 0]
        self._allowed = sum([allowance[other] << (BITS * seat) for seat, other in enumerate(self._ahead)])
        self._fences = sum([FENCE << (BITS * seat) for seat in range(len(self._ahead))])
        self._below = self._frames_below()
        self._found = {}
        self._returns = {}

    def _frames_below(self):
        """A dict from beginnings to tuples (entry, move): where, and with which move, they begin."""
        found = {}
        for entry, move, begun in self._flow.begun():
            found.setdefault(begun, []).append((entry, move))
        return found

    def _less_by(self, left, used):
        """What is left behind some services; None if they are too many."""
        # Where a line was served too often, its fence is taken away.
        rest = (left | self._fences) - used
        return rest ^ self._fences if rest & self._fences == self._fences else None

    def _is_shut(self, entry):
        """Whether the line that waits cannot be served at an entry, so that any move may be made."""
        return bound_at(self._program, entry) >= self._level

    def _is_end(self, entry):
        """Whether a frame returns from an entry while the line waits."""
        return row_of(self._program, entry) is None and self._is_shut(entry)

    def _begun_from(self, node):
        """A tuple (rows, beginning, what is left then, move) for each frame that begins at a node."""
        entry, left = node
        lines = self._program.lines_above(bound_at(self._program, entry))
        found = []
        for seat, line in enumerate(self._ahead):
            less = self._less_by(left, 1 << (BITS * seat))
            if less is not None and line in lines:
                found.append((0, line_beginning(self._program, line, entry[3]), less, ("serve", line)))
        if self._is_shut(entry):
            calls = [begun for move, begun in begun_at(self._program, entry) if move[0] == "row"]
            found.extend([(1, begun, left, ("row", 0)) for begun in calls])
        return found

    def _steps_from(self, node):
        """The steps of a frame from a node on."""
        entry, left = node
        found = []
        if self._is_shut(entry):
            rows = behind_rows(self._program, entry)
            found.extend([(1, (behind, left), ("row", choice), None) for choice, behind in rows])
        for rows, begun, less, move in self._begun_from(node):
            for more, end, used in self._returns_of(begun):
                rest = self._less_by(less, used)
                if rest is not None:
                    found.append((rows + more, (behind_frame(entry, move, end[0]), rest), move, end))
        return found

    def _inside(self, beginning):
        """The ways with the most rows from a beginning on, within its frame, if all is left that is allowed.

        They are the same ways if less is left, as long as it is enough for them.
        """
        if beginning not in self._found:
            first = (first_entry(beginning), self._allowed)
            self._found[beginning] = farthest(graph_from([first], self._steps_from), [first])
        return self._found[beginning]

    def _returns_of(self, beginning):
        """A tuple (rows, node of the end, what is used) for each end at which a frame with this beginning returns."""
        if beginning not in self._returns:
            inside = self._inside(beginning)
            ends = [end for end in inside if self._is_end(end[0])]
            self._returns[beginning] = [(inside[end][0], end, self._allowed - end[1]) for end in ends]
        return self._returns[beginning]

    def _steps_between(self, spot):
        """The steps from a spot on."""
        side, node = spot
        entry, left = node
        found = [(step[0], (side, step[1]), step, None) for step in self._steps_from(node)]
        for rows, begun, less, move in self._begun_from(node):
            first = (first_entry(begun), less)
            found.append((rows, (INTO, first), (rows, first, move, None), None))
        if side == OUT and self._is_end(entry):
            for below, move in self._below.get(entry[0], []):
                behind = (behind_frame(below, move, entry), left)
                found.append((0, (OUT, behind), None, (below, move)))
        return found

    def longest(self):
        """A tuple (rows, entry, steps between spots) of a wait with the most rows, which begins at the entry.

        No step leads back: rows would be turning, and with each service there is less left.
        """
        firsts = [(OUT, (entry, self._allowed)) for entry in self._flow.entries()]
        found = most_ahead(firsts, self._steps_between)
        most = 0
        spot = firsts[0]
        for first in firsts:
            if found[first][0] > most:
                most = found[first][0]
                spot = first
        steps = []
        _, (entry, _) = spot
        _, step = found[spot]
        while step is not None:
            steps.append(step)
            _, step = found[step[1]]
        return (most, entry, steps)

    def _moves_of(self, steps):
        """The moves of steps of frames."""
        found = []
        for _, _, move, end in steps:
            found.append(move)
            if end is not None:
                _, within = way_in(self._inside(end[0][0]), end)
                found.extend([*self._moves_of(within), ("row", 0)])
        return found

    def moves_between(self, steps):
        """The moves of steps between spots."""
        found = []
        for _, _, step, _ in steps:
            if step is not None:
                found.extend(self._moves_of([step]))
            else:
                found.append(("row", 0))
        return found
