"""Frames: how they begin, where they can be, and what this asks for.

A beginning is a tuple (procedure, floor, store, mask); an entry is a tuple
(beginning, point, kept, store, mask): a frame that begins so can be there.
"""

from maskedlevels.errors import BadPoint
from maskedlevels.programs import is_within
from maskedlevels.steps import choices_of
from maskedlevels.steps import greater
from maskedlevels.steps import is_store
from maskedlevels.steps import stand_behind


def is_point(program, procedure, value):
    """Whether any value is a point of a procedure of the program."""
    return is_within(value, 0, len(program[procedure]))


def check_point(program, procedure, point):
    """Raises BadProcedure or BadPoint for any values that are no point of the program."""
    # The program itself refuses what is no procedure.
    if not is_point(program, procedure, point):
        raise BadPoint(point)


def is_line(program, value):
    """Whether any value is a line of the program."""
    return type(value) is str and value in program.lines()


def is_beginning(program, value):
    """Whether any value is a beginning of a frame of the program."""
    if type(value) is not tuple or len(value) != 4:
        return False
    procedure, floor, store, mask = value
    if procedure not in program or not is_within(floor, 0, program.levels):
        return False
    return is_store(program, store) and is_within(mask, floor, program.levels)


def is_place(program, value):
    """Whether any value is a place of the program."""
    if type(value) is not tuple or len(value) != 6:
        return False
    procedure, point, kept, store, mask, floor = value
    if not is_beginning(program, (procedure, floor, store, mask)):
        return False
    return is_point(program, procedure, point) and is_within(kept, 0, program.levels)


def is_entry(program, value):
    """Whether any value is an entry of the program."""
    if type(value) is not tuple or len(value) != 5:
        return False
    beginning, point, kept, store, mask = value
    if not is_beginning(program, beginning):
        return False
    return is_place(program, (beginning[0], point, kept, store, mask, beginning[1]))


def main_beginning(program):
    """The beginning of the main procedure at the start."""
    return (program.main, 0, program.first_store(), 0)


def line_beginning(program, line, store):
    """The beginning of a line that is served with a store."""
    level, procedure = program.line_of(line)
    return (procedure, level, store, level)


def first_entry(beginning):
    """The entry of a frame at its beginning."""
    _, _, store, mask = beginning
    return (beginning, 0, 0, store, mask)


def plain_entry(entry):
    """An entry without what a flow may put behind it and behind its beginning."""
    beginning, point, kept, store, mask, _ = entry
    return (beginning[:4], point, kept, store, mask)


def place_at(entry):
    """The place where an entry is."""
    beginning, point, kept, store, mask = entry
    return (beginning[0], point, kept, store, mask, beginning[1])


def entry_at(place):
    """An entry at a place, of a frame that began with the same store and mask."""
    procedure, point, kept, store, mask, floor = place
    return ((procedure, floor, store, mask), point, kept, store, mask)


def row_of(program, entry):
    """The row at which an entry is, None at the end of its procedure."""
    return program.row_at(entry[0][0], entry[1])


def bound_at(program, entry):
    """The bound at an entry: the lines above it can be served there."""
    return greater(entry[4], program.guard_at(entry[0][0], entry[1]))


def behind_rows(program, entry):
    """A tuple (choice, entry behind) for each way to do the row at an entry; none for a call and an end."""
    beginning, point, kept, store, mask = entry
    row = row_of(program, entry)
    if row is None or row[0] == "call":
        return []
    found = []
    for choice in choices_of(program, row):
        stand = stand_behind(program, row, (point, kept, store, mask, beginning[1]), choice)
        # The floor is that of the beginning still.
        found.append((choice, (beginning,) + stand[:4]))
    return found


def begun_at(program, entry):
    """A tuple (move, beginning) for each unlike frame that can begin at an entry: of lines, and of a call."""
    beginning, _, _, store, mask = entry
    _, floor, _, _ = beginning
    found = {}
    for line in program.lines_above(bound_at(program, entry)):
        found.setdefault(line_beginning(program, line, store), ("serve", line))
    row = row_of(program, entry)
    if row is not None and row[0] == "call":
        found[(row[1], floor, store, mask)] = ("row", 0)
    return [(move, begun) for begun, move in found.items()]


def behind_frame(entry, move, end):
    """The entry behind the return of a frame that a move at an entry began, and that came to this end."""
    beginning, point, kept, _, mask = entry
    _, _, _, left, new = end
    if move[0] == "serve":
        return (beginning, point, kept, left, mask)
    return (beginning, point + 1, kept, left, new)


def look_at(program, procedure, point):
    """The cell that is looked at at a point, None if there is no look."""
    row = program.row_at(procedure, point)
    if row is None or row[0] != "look":
        return None
    return row[1]


def is_meeting(program, entry, section):
    """Whether an entry is at a row that opens a section while it is open."""
    return row_of(program, entry) == ("open", section) and entry[3][program.seat_of(section)] == 1
