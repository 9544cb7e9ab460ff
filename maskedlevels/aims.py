"""How few moves lead from where runs are to entries that are aimed at.

Where a run is, is told by a pile: the entries of all frames, the lowest first. A frame
that has begun another one is still where it began it.
"""

from maskedlevels.frames import begun_at
from maskedlevels.frames import behind_frame
from maskedlevels.frames import behind_rows
from maskedlevels.frames import bound_at
from maskedlevels.frames import first_entry
from maskedlevels.frames import line_beginning
from maskedlevels.frames import row_of
from maskedlevels.nearest import Nearest


def nearest_from(firsts, steps):
    """How far all things are that can be had from some first ones; steps are lists of tuples (far, thing)."""
    found = {}
    queue = Nearest()
    for first in firsts:
        queue.put(0, first)
    while queue.is_filled():
        far, thing = queue.take()
        if thing not in found:
            found[thing] = far
            for more, other in steps.get(thing, []):
                queue.put(far + more, other)
    return found


def return_from(pile, end):
    """The pile behind the return of its highest frame, which is at an end."""
    below = pile[-2]
    # A line that is served has another floor, what is called has the same one.
    move = ("row", 0) if below[0][1] == end[0][1] else ("serve", None)
    return (*pile[:-2], behind_frame(below, move, end))


class Aim:
    """How few moves lead to some entries of the flow of all runs of a program."""

    def __init__(self, program, flow, goals):
        self._program = program
        self._flow = flow
        self._within = {entry: self._steps_within(entry) for entry in flow.entries()}
        self._near = nearest_from(goals, self._turned())
        self._ends = {}
        self._left = {}

    def _steps_within(self, entry):
        """A tuple (far, entry) for each step from an entry on, within its frame."""
        found = [(1, behind) for _, behind in behind_rows(self._program, entry)]
        for move, begun in begun_at(self._program, entry):
            for end in self._flow.ends(begun):
                found.append((self._flow.far(end) + 2, behind_frame(entry, move, end)))
        return found

    def _turned(self):
        """All steps within frames and into frames that begin, turned about."""
        found = {}
        for entry, steps in self._within.items():
            for far, behind in steps:
                found.setdefault(behind, []).append((far, entry))
        for entry, _, begun in self._flow.begun():
            found.setdefault(first_entry(begun), []).append((1, entry))
        return found

    def _ends_from(self, entry):
        """A dict from the ends of its frame that can be come to from an entry to the fewest moves."""
        if entry not in self._ends:
            found = nearest_from([entry], self._within)
            self._ends[entry] = {end: far for end, far in found.items() if row_of(self._program, end) is None}
        return self._ends[entry]

    def left(self, pile):
        """The fewest moves from a pile on to one of the entries, None if none leads there."""
        if pile not in self._left:
            ways = [self._near[pile[-1]]] if pile[-1] in self._near else []
            if len(pile) > 1:
                for end, far in self._ends_from(pile[-1]).items():
                    below = self.left(return_from(pile, end))
                    if below is not None:
                        ways.append(far + 1 + below)
            self._left[pile] = min(ways, key=int) if ways else None
        return self._left[pile]

    def first(self):
        """The pile at the start."""
        return (first_entry(self._flow.root()),)

    def steps(self, pile):
        """A tuple (move, pile behind) for each move that can be made, in the order of the moves."""
        entry = pile[-1]
        found = []
        for line in self._program.lines_above(bound_at(self._program, entry)):
            begun = line_beginning(self._program, line, entry[3])
            found.append((("serve", line), (*pile, first_entry(begun))))
        for choice, behind in behind_rows(self._program, entry):
            found.append((("row", choice), (*pile[:-1], behind)))
        for move, begun in begun_at(self._program, entry):
            if move[0] == "row":
                found.append((move, (*pile, first_entry(begun))))
        if row_of(self._program, entry) is None and len(pile) > 1:
            found.append((("row", 0), return_from(pile, entry)))
        return found

    def nearer(self, pile):
        """The steps from a pile on that lead nearer by one move."""
        left = self.left(pile) - 1
        return [(move, behind) for move, behind in self.steps(pile) if self.left(behind) == left]
