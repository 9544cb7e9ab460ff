"""What can be come to in runs, under all arrivals."""

from maskedlevels.errors import BadArgument
from maskedlevels.errors import BadPoint
from maskedlevels.errors import BadSection
from maskedlevels.flows import flow_of
from maskedlevels.frames import check_point
from maskedlevels.frames import is_meeting
from maskedlevels.frames import is_place
from maskedlevels.frames import look_at
from maskedlevels.frames import place_at
from maskedlevels.programs import check_program
from maskedlevels.texts import in_text_order
from maskedlevels.ways import script_to_any


def entries_at(program, procedure, point):
    """All entries of runs at a point of a procedure."""
    return [entry for entry in flow_of(program).entries() if entry[0][0] == procedure and entry[1] == point]


def places(program):
    """All places that can be come to."""
    check_program(program)
    return in_text_order([place_at(entry) for entry in flow_of(program).entries()])


def can_come(program, value):
    """Whether any value is a place that can be come to."""
    check_program(program)
    if not is_place(program, value):
        return False
    return value in [place_at(entry) for entry in entries_at(program, value[0], value[1])]


def seen_at(program, procedure, point):
    """The values that the cell of a look can have there, ascending."""
    check_program(program)
    check_point(program, procedure, point)
    cell = look_at(program, procedure, point)
    if cell is None:
        raise BadPoint(point)
    seat = program.seat_of(cell)
    values = {entry[3][seat]: True for entry in entries_at(program, procedure, point)}
    return sorted(values, key=int)


def is_section(program, value):
    """Whether any value is a section of the program."""
    return type(value) is str and value in program.sections()


def meetings(program, section):
    """The places at a row that opens the section while it is open."""
    check_program(program)
    if not is_section(program, section):
        raise BadSection(section)
    entries = flow_of(program).entries()
    return in_text_order([place_at(entry) for entry in entries if is_meeting(program, entry, section)])


def masks_at(program, procedure, point):
    """The masks with which a point can be come to, ascending."""
    check_program(program)
    check_point(program, procedure, point)
    masks = {entry[4]: True for entry in entries_at(program, procedure, point)}
    return sorted(masks, key=int)


def script_to(program, place):
    """A script with the fewest moves that leads to a place, None if it cannot be come to."""
    check_program(program)
    if not is_place(program, place):
        raise BadArgument(place)
    flow = flow_of(program)
    return script_to_any(flow, [entry for entry in flow.entries() if place_at(entry) == place])
