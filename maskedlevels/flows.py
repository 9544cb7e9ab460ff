"""All that frames can come to from their beginnings on, with the fewest moves to each entry."""

from maskedlevels.frames import begun_at
from maskedlevels.frames import behind_frame
from maskedlevels.frames import behind_rows
from maskedlevels.frames import first_entry
from maskedlevels.frames import main_beginning
from maskedlevels.frames import row_of
from maskedlevels.nearest import Nearest


class Flow:
    """The entries of some frames, and of all frames that begin at these entries.

    Distances are counted within a frame: from its beginning on, with all moves of
    the frames that begin and return in between. A beginning that turns up late is at
    distance 0 and goes ahead of all that is farther; what is asked of its ends is
    farther than they are. So the first way on which an entry is taken is a shortest.

    What follows from an entry is told by methods of their own: a class below may put
    more into its beginnings and entries, behind what stands there.
    """

    def __init__(self, program):
        self._program = program
        self._queue = Nearest()
        self._far = {}
        self._ways = {}
        self._ends = {}
        self._waiting = {}

    def root(self):
        """The beginning of the main procedure at the start."""
        return main_beginning(self._program)

    def first_of(self, beginning):
        """The entry of a frame at its beginning."""
        return first_entry(beginning)

    def rows_at(self, entry):
        """A tuple (choice, entry behind) for each way to do the row at an entry."""
        return behind_rows(self._program, entry)

    def frames_at(self, entry):
        """A tuple (move, beginning) for each frame that can begin at an entry."""
        return begun_at(self._program, entry)

    def entry_behind(self, entry, move, end):
        """The entry behind the return of a frame that a move began; None if it is of no interest."""
        return behind_frame(entry, move, end)

    def go(self, beginning):
        """Finds all that begins with this beginning, if it is not found yet."""
        self._begin(beginning)
        while self._queue.is_filled():
            far, entry = self._queue.take()
            # An entry that was put again, nearer, has been taken already.
            if far == self._far[entry]:
                self._go_on(entry, far)

    def _begin(self, beginning):
        """Puts the first entry of a beginning that is new."""
        if beginning not in self._ends:
            self._ends[beginning] = []
            self._waiting[beginning] = []
            self._put(0, self.first_of(beginning), None)

    def _put(self, far, entry, way):
        """Puts an entry to which a way leads: (entry before, move, end of the frame between or None)."""
        if entry not in self._far or far < self._far[entry]:
            self._far[entry] = far
            self._ways[entry] = way
            self._queue.put(far, entry)

    def _go_on(self, entry, far):
        """Puts all that follows from an entry, and from what is known of others."""
        for choice, behind in self.rows_at(entry):
            self._put(far + 1, behind, (entry, ("row", choice), None))
        for move, begun in self.frames_at(entry):
            self._begin(begun)
            self._waiting[begun].append((entry, move))
            for end in self._ends[begun]:
                self._return(entry, move, end)
        if row_of(self._program, entry) is None:
            self._ends[entry[0]].append(entry)
            for waiting, move in self._waiting[entry[0]]:
                self._return(waiting, move, entry)

    def _return(self, entry, move, end):
        """Puts the entry behind the return of a frame that began at an entry."""
        behind = self.entry_behind(entry, move, end)
        if behind is not None:
            self._put(self._far[entry] + self._far[end] + 2, behind, (entry, move, end))

    def entries(self):
        """All entries that are found; the same ones in the same order for equal programs."""
        return list(self._far)

    def ends(self, beginning):
        """The entries at the end of the frame with a beginning that is found."""
        return list(self._ends[beginning])

    def begun(self):
        """A tuple (entry, move, beginning) for each entry at which a frame begins with this move."""
        return [(entry, move, first) for first, rows in self._waiting.items() for entry, move in rows]

    def far(self, entry):
        """The fewest moves from the beginning of its frame to an entry."""
        return self._far[entry]

    def moves_to(self, entry):
        """The moves of a shortest way from the beginning of its frame to an entry."""
        parts = []
        way = self._ways[entry]
        while way is not None:
            before, move, end = way
            if end is None:
                parts.append([move])
            else:
                parts.append([move, *self.moves_to(end), ("row", 0)])
            way = self._ways[before]
        return [move for part in parts[::-1] for move in part]


def flow_of(program):
    """The flow of all runs of a program: its entries are the least closed table."""
    flow = Flow(program)
    flow.go(flow.root())
    return flow
