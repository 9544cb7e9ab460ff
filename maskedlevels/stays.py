"""What activations do as long as their bound is at least a level."""

from maskedlevels.frames import begun_at
from maskedlevels.frames import behind_frame
from maskedlevels.frames import behind_rows
from maskedlevels.frames import bound_at
from maskedlevels.frames import first_entry
from maskedlevels.frames import row_of
from maskedlevels.graphs import farthest
from maskedlevels.graphs import spread
from maskedlevels.graphs import turning
from maskedlevels.graphs import way_in
from maskedlevels.ways import approaches
from maskedlevels.ways import nearest_of
from maskedlevels.ways import way_to


class Stay:
    """Steps of frames in a flow of all runs, from entries with such a bound on.

    A step is a tuple (rows, entry behind, move, end): how many rows of the activation
    it has, the entry of the same frame to which it leads, the move with which it
    begins, and the end of the frame that this move begins, None for a row alone.
    What is called has such a bound all the while, too. Lines are served if arrivals is
    True: they do what they like, and their rows do not count.
    """

    def __init__(self, program, flow, level, arrivals):
        self._program = program
        self._flow = flow
        self._level = level
        self._arrivals = arrivals
        self._steps = {}
        self._found = {}

    def is_kept(self, entry):
        """Whether the bound at an entry is at least the level."""
        return bound_at(self._program, entry) >= self._level

    def is_kept_end(self, entry):
        """Whether an entry is at the end of its procedure, with such a bound."""
        return row_of(self._program, entry) is None and self.is_kept(entry)

    def entries(self):
        """All entries of runs."""
        return self._flow.entries()

    def steps(self, entry):
        """The steps from an entry on; none if the bound is less."""
        if entry not in self._steps:
            self._steps[entry] = self._worked_out(entry) if self.is_kept(entry) else []
        return self._steps[entry]

    def graph(self):
        """The graph of all entries of runs."""
        return {entry: self.steps(entry) for entry in self.entries()}

    def _worked_out(self, entry):
        """The steps from an entry on that has such a bound."""
        found = [(1, behind, ("row", choice), None) for choice, behind in behind_rows(self._program, entry)]
        for move, begun in begun_at(self._program, entry):
            for rows, end in self._ends_behind(move, begun):
                found.append((rows, behind_frame(entry, move, end), move, end))
        return found

    def _ends_behind(self, move, begun):
        """A tuple (rows, end) for each end of a frame that a move begins."""
        if move[0] == "serve":
            return [(0, end) for end in self._flow.ends(begun)] if self._arrivals else []
        inside = self._inside(begun)
        return [(inside[end][0] + 1, end) for end in inside if self.is_kept_end(end)]

    def _inside(self, beginning):
        """How the entries of a frame are found from its beginning on."""
        if beginning not in self._found:
            self._found[beginning] = self.search(first_entry(beginning))
        return self._found[beginning]

    def search(self, first):
        """How the entries of a frame are found from one of them on."""
        return spread(first, self.steps)

    def moves_of(self, steps):
        """The moves of steps: tuples (move, whether it is a row of the activation)."""
        found = []
        for _, _, move, end in steps:
            found.append((move, move[0] == "row"))
            if end is not None:
                found.extend(self._moves_within(move, end))
                found.append((("row", 0), False))
        return found

    def _moves_within(self, move, end):
        """The moves of a frame that a move began, up to its end."""
        if move[0] == "serve":
            return [(within, False) for within in self._flow.moves_to(end)]
        _, steps = way_in(self._inside(end[0]), end)
        return self.moves_of(steps)


class LongStay(Stay):
    """Steps that have as many rows as they can; nothing may be turning."""

    def search(self, first):
        """The ways with the most rows from an entry of a frame on."""
        found = spread(first, self.steps)
        return farthest({entry: self.steps(entry) for entry in found}, [first])


def turns_of(stay):
    """A tuple (entry, step) for each step with rows that can be done again and again."""
    return turning(stay.graph())


def ring_by(stay, turn):
    """The moves of a ring that begins with a turn, from its entry on and back to it."""
    entry, step = turn
    _, back = way_in(spread(step[1], stay.steps), entry)
    return [move for move, _ in stay.moves_of([step, *back])]


def ring_in(flow, stay, turns):
    """A pair (script, moves of a ring) that goes by one of some turns; None if there are none."""
    if not turns:
        return None
    found = approaches(flow)
    near = nearest_of(flow, found, [entry for entry, _ in turns])
    nearest = [turn for turn in turns if turn[0] == near]
    return (way_to(flow, found, near), ring_by(stay, nearest[0]))
