"""The flow of the runs that have a word: what their looks show, one behind the other."""

from maskedlevels.flows import Flow
from maskedlevels.frames import begun_at
from maskedlevels.frames import behind_frame
from maskedlevels.frames import behind_rows
from maskedlevels.frames import first_entry
from maskedlevels.frames import look_at
from maskedlevels.frames import main_beginning
from maskedlevels.frames import plain_entry


class Reading(Flow):
    """A flow in which beginnings and entries have behind what else they have how much of a word was shown."""

    def __init__(self, program, word):
        super().__init__(program)
        self._word = tuple(word)

    def root(self):
        """The beginning of the main procedure at the start."""
        return (*main_beginning(self._program), 0)

    def first_of(self, beginning):
        """The entry of a frame at its beginning."""
        entry = first_entry(beginning[:4])
        return (beginning, *entry[1:], beginning[4])

    def rows_at(self, entry):
        """A tuple (choice, entry behind) for each way to do the row at an entry; none for a look at anything else."""
        shown = self._shown_behind(entry)
        if shown is None:
            return []
        rows = behind_rows(self._program, plain_entry(entry))
        return [(choice, (entry[0], *behind[1:], shown)) for choice, behind in rows]

    def frames_at(self, entry):
        """A tuple (move, beginning) for each frame that can begin at an entry."""
        return [(move, (*begun, entry[5])) for move, begun in begun_at(self._program, plain_entry(entry))]

    def entry_behind(self, entry, move, end):
        """The entry behind the return of a frame that a move began."""
        behind = behind_frame(plain_entry(entry), move, plain_entry(end))
        return (entry[0], *behind[1:], end[5])

    def _shown_behind(self, entry):
        """How much of the word is shown behind the row at an entry; None if it shows anything else."""
        cell = look_at(self._program, entry[0][0], entry[1])
        shown = entry[5]
        if cell is None:
            return shown
        sight = (cell, entry[3][self._program.seat_of(cell)])
        if shown == len(self._word) or self._word[shown] != sight:
            return None
        return shown + 1

    def wholes(self):
        """The entries at which the whole word was shown, and nothing else."""
        return [entry for entry in self.entries() if entry[5] == len(self._word)]
