"""Lines that are never served any more, and activations that go on without end."""

from maskedlevels.errors import BadArgument
from maskedlevels.flows import flow_of
from maskedlevels.frames import bound_at
from maskedlevels.programs import check_program
from maskedlevels.programs import is_within
from maskedlevels.stays import Stay
from maskedlevels.stays import ring_in
from maskedlevels.stays import turns_of
from maskedlevels.ways import script_to_any


def rests_in(program, flow, level):
    """The entries at rest with a bound of at least a level."""
    return [end for end in flow.ends(flow.root()) if bound_at(program, end) >= level]


def is_shut(program, flow, level):
    """Whether some run comes to where the bound is at least a level for ever, if no line is served."""
    if rests_in(program, flow, level):
        return True
    return len(turns_of(Stay(program, flow, level, False))) > 0


def starved(program):
    """The lines that can be starved, ascending."""
    check_program(program)
    flow = flow_of(program)
    levels = {program.line_of(line)[0]: True for line in program.lines()}
    shut = {level: is_shut(program, flow, level) for level in levels}
    return [line for line in program.lines() if shut[program.line_of(line)[0]]]


def starving(program, line):
    """A pair (script, ring) by which a line is starved, None if it cannot be."""
    check_program(program)
    level, _ = program.line_of(line)
    flow = flow_of(program)
    rests = rests_in(program, flow, level)
    if rests:
        return (script_to_any(flow, rests), [])
    stay = Stay(program, flow, level, False)
    return ring_in(flow, stay, turns_of(stay))


def check_arrivals(arrivals):
    """Raises BadArgument for any value that is neither True nor False."""
    if type(arrivals) is not bool:
        raise BadArgument(arrivals)


def endless(program, *, arrivals=False):
    """The floors of which some run has an activation that goes on without end, ascending."""
    check_program(program)
    check_arrivals(arrivals)
    # No bound is less than 0, so that all entries are looked at.
    stay = Stay(program, flow_of(program), 0, arrivals)
    return sorted({entry[0][1]: True for entry, _ in turns_of(stay)}, key=int)


def endless_ring(program, floor, *, arrivals=False):
    """A pair (script, ring) for a floor that endless tells, None for any other value."""
    check_program(program)
    check_arrivals(arrivals)
    if not is_within(floor, 0, program.levels):
        return None
    flow = flow_of(program)
    stay = Stay(program, flow, 0, arrivals)
    return ring_in(flow, stay, [turn for turn in turns_of(stay) if turn[0][0][1] == floor])
