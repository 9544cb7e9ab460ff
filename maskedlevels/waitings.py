"""What frames do while a line waits and others are served ahead of it.

A node is a tuple (entry, left): left tells of each line that may be served ahead how
often it still may. A step of a frame is a tuple (rows, node behind, move, begun, end):
how many rows it has, the node of the same frame to which it leads, the move with which it
begins, and the nodes at the beginning and the end of the frame that this move begins,
both None for a row alone.
"""

from maskedlevels.frames import begun_at
from maskedlevels.frames import behind_frame
from maskedlevels.frames import behind_rows
from maskedlevels.frames import bound_at
from maskedlevels.frames import first_entry
from maskedlevels.frames import line_beginning
from maskedlevels.frames import row_of
from maskedlevels.graphs import farthest
from maskedlevels.graphs import way_in

# A wait may begin in frames that return in it, and end in frames that begin in it. So it
# first goes OUT of frames, and from some node on INTO frames: what begins in it and returns
# in it are steps of frames. A spot is a tuple (OUT or INTO, node), and a step between spots
# a tuple (rows, spot behind, step of a frame or None, (entry, move) of the frame below or None).
OUT = "out"
INTO = "into"


def graph_from(firsts, steps_of):
    """The graph of all nodes that are had from some first ones; a function tells the steps of a node."""
    graph = {}
    todo = list(firsts)
    while todo:
        node = todo.pop()
        if node not in graph:
            graph[node] = steps_of(node)
            todo.extend([step[1] for step in graph[node] if step[1] not in graph])
    return graph


class Waiting:
    """The ways of frames while a line waits, in a program in which no wait of it is without end."""

    def __init__(self, program, flow, line, allowance):
        self._program = program
        self._flow = flow
        self._level = program.line_of(line)[0]
        # Lines that may not be served at all need no number.
        self._ahead = [other for other in program.lines() if allowance.get(other, 0) > 0]
        self._allowed = tuple([allowance[other] for other in self._ahead])
        self._below = self._frames_below()
        self._found = {}

    def _frames_below(self):
        """A dict from beginnings to tuples (entry, move): where, and with which move, they begin."""
        found = {}
        for entry, move, begun in self._flow.begun():
            found.setdefault(begun, []).append((entry, move))
        return found

    def _is_shut(self, entry):
        """Whether the line that waits cannot be served at an entry, so that any move may be made."""
        return bound_at(self._program, entry) >= self._level

    def _is_end(self, entry):
        """Whether a frame returns from an entry while the line waits."""
        return row_of(self._program, entry) is None and self._is_shut(entry)

    def _begun_from(self, node):
        """A tuple (rows, node, move) for each frame that begins at a node, with the node of its beginning."""
        entry, left = node
        lines = self._program.lines_above(bound_at(self._program, entry))
        found = []
        for seat, line in enumerate(self._ahead):
            if left[seat] > 0 and line in lines:
                less = (*left[:seat], left[seat] - 1, *left[seat + 1:])
                first = first_entry(line_beginning(self._program, line, entry[3]))
                found.append((0, (first, less), ("serve", line)))
        if self._is_shut(entry):
            calls = [begun for move, begun in begun_at(self._program, entry) if move[0] == "row"]
            found.extend([(1, (first_entry(begun), left), ("row", 0)) for begun in calls])
        return found

    def _steps_from(self, node):
        """The steps of a frame from a node on."""
        entry, left = node
        found = []
        if self._is_shut(entry):
            rows = behind_rows(self._program, entry)
            found.extend([(1, (behind, left), ("row", choice), None, None) for choice, behind in rows])
        for rows, begun, move in self._begun_from(node):
            inside = self._inside(begun)
            for end in inside:
                if self._is_end(end[0]):
                    behind = (behind_frame(entry, move, end[0]), end[1])
                    found.append((rows + inside[end][0], behind, move, begun, end))
        return found

    def _inside(self, first):
        """The ways with the most rows from the node of a beginning on, within its frame."""
        if first not in self._found:
            self._found[first] = farthest(graph_from([first], self._steps_from), [first])
        return self._found[first]

    def _steps_between(self, spot):
        """The steps from a spot on."""
        side, node = spot
        found = [(step[0], (side, step[1]), step, None) for step in self._steps_from(node)]
        if side == INTO:
            for rows, begun, move in self._begun_from(node):
                found.append((rows, (INTO, begun), (rows, begun, move, None, None), None))
            return found
        entry, left = node
        if self._is_end(entry):
            for below, move in self._below.get(entry[0], []):
                behind = (behind_frame(below, move, entry), left)
                found.append((0, (OUT, behind), None, (below, move)))
        found.append((0, (INTO, node), None, None))
        return found

    def waits(self):
        """The ways of all waits, each with as many rows as can be."""
        firsts = [(OUT, (entry, self._allowed)) for entry in self._flow.entries()]
        return farthest(graph_from(firsts, self._steps_between), firsts)

    def _moves_of(self, steps):
        """The moves of steps of frames."""
        found = []
        for _, _, move, begun, end in steps:
            found.append(move)
            if end is not None:
                _, within = way_in(self._inside(begun), end)
                found.extend([*self._moves_of(within), ("row", 0)])
        return found

    def moves_between(self, steps):
        """The moves of steps between spots."""
        found = []
        for _, _, step, below in steps:
            if step is not None:
                found.extend(self._moves_of([step]))
            elif below is not None:
                found.append(("row", 0))
        return found
