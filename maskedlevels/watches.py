"""The flow of all runs, with what each activation has seen of a pair of cells."""

from maskedlevels.flows import Flow
from maskedlevels.frames import begun_at
from maskedlevels.frames import behind_frame
from maskedlevels.frames import behind_rows
from maskedlevels.frames import first_entry
from maskedlevels.frames import main_beginning
from maskedlevels.frames import plain_entry
from maskedlevels.frames import row_of

# A watch is a tuple. An activation looks for itself: its watch is () as long as no look at
# the one cell waits for a look at the other, and then (value, seen, procedure, point): the
# value of the one cell at this look, where it was, and a bit for each value that the other
# cell has had since while the one had this value. Lines that are served in between go with
# watches (value, seen) for it; for themselves they begin with () once more.
NOTHING = ()


def is_for_another(watch):
    """Whether a watch is that of a line for an activation below it."""
    return len(watch) == 2


def is_waiting(watch):
    """Whether an activation has looked at the one cell and not yet at the other."""
    return len(watch) == 4


def with_seen(watch, seen):
    """A watch with the bits of what was seen, besides those that it has."""
    value, before, *place = watch
    return (value, before | seen, *place)


class Watch(Flow):
    """A flow in which beginnings and entries have a watch behind what else they have."""

    def __init__(self, program, one, other):
        super().__init__(program)
        self._one = one
        self._other = other

    def root(self):
        """The beginning of the main procedure at the start."""
        return (*main_beginning(self._program), NOTHING)

    def first_of(self, beginning):
        """The entry of a frame at its beginning."""
        # What its store shows was seen where it begins.
        entry = first_entry(beginning[:4])
        return (beginning, *entry[1:], beginning[4])

    def rows_at(self, entry):
        """A tuple (choice, entry behind) for each way to do the row at an entry."""
        rows = behind_rows(self._program, plain_entry(entry))
        return [(choice, (entry[0], *behind[1:], self._watch_behind(entry, behind[3]))) for choice, behind in rows]

    def frames_at(self, entry):
        """A tuple (move, beginning) for each frame that can begin at an entry."""
        begun = begun_at(self._program, plain_entry(entry))
        return [(move, (*first, watch)) for move, first in begun for watch in self._watches_begun(entry[5], move)]

    def entry_behind(self, entry, move, end):
        """The entry behind the return of a frame; None for a line that looked for itself alone."""
        watch = self._watch_left(entry[5], move, end[5])
        if watch is None:
            return None
        behind = behind_frame(plain_entry(entry), move, plain_entry(end))
        return (entry[0], *behind[1:], watch)

    def _seen_in(self, watch, store):
        """A watch with what is seen in a store."""
        if watch == NOTHING or store[self._program.seat_of(self._one)] != watch[0]:
            return watch
        return with_seen(watch, 1 << store[self._program.seat_of(self._other)])

    def _watch_behind(self, entry, store):
        """The watch behind the row at an entry, with the store that is there."""
        watch = entry[5]
        row = row_of(self._program, entry)
        if not is_for_another(watch):
            if row == ("look", self._one):
                value = store[self._program.seat_of(self._one)]
                return self._seen_in((value, 0, entry[0][0], entry[1]), store)
            if row == ("look", self._other):
                return NOTHING
        return self._seen_in(watch, store)

    def _watches_begun(self, watch, move):
        """The watches with which a frame can begin that a move begins over a watch."""
        # What was seen below is joined behind the return, so a line need not begin with it.
        if is_for_another(watch):
            return [(watch[0], 0)]
        if move[0] == "row":
            return [watch]
        if watch == NOTHING:
            return [NOTHING]
        return [NOTHING, (watch[0], 0)]

    def _watch_left(self, watch, move, end):
        """The watch behind the return of a frame, with the watch at its end."""
        if is_for_another(watch):
            return with_seen(watch, end[1])
        if move[0] == "row":
            return end
        if watch == NOTHING:
            return NOTHING
        return with_seen(watch, end[1]) if is_for_another(end) else None
