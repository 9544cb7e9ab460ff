"""The longest waits of lines, with others served ahead of them only so often."""

from maskedlevels.errors import BadNumber
from maskedlevels.flows import flow_of
from maskedlevels.frames import is_line
from maskedlevels.programs import check_program
from maskedlevels.programs import is_within
from maskedlevels.stays import Stay
from maskedlevels.stays import ring_in
from maskedlevels.stays import turns_of
from maskedlevels.waitings import Waiting
from maskedlevels.ways import approaches
from maskedlevels.ways import way_over

MOST_SERVICES = 3


def ahead_of(program, line):
    """The lines that come before a line in the order in which they are served."""
    ranked = program.lines_above(0)
    return ranked[:ranked.index(line)]


def is_allowance(program, line, value):
    """Whether any value tells of lines ahead of a line how often they may be served."""
    if type(value) is not dict:
        return False
    ahead = ahead_of(program, line)
    return all([
        is_line(program, other) and other in ahead and is_within(many, 0, MOST_SERVICES)
        for other, many in value.items()
    ])


def check_wait(program, line, allowance):
    """Raises BadArgument, BadLine or BadNumber for what is no program, no line of it, no allowance for this."""
    check_program(program)
    # The program itself refuses what is no line.
    program.line_of(line)
    if not is_allowance(program, line, allowance):
        raise BadNumber(allowance)


def endless_stay(program, flow, line):
    """What activations do while a line waits and none is served: if it turns, there is a wait without end.

    Services are used up, so that nothing else goes on for ever.
    """
    return Stay(program, flow, program.line_of(line)[0], False)


def longest_wait(program, line, allowance):
    """The greatest number of rows that a wait of a line has in some run, None if there is no greatest one."""
    check_wait(program, line, allowance)
    flow = flow_of(program)
    if turns_of(endless_stay(program, flow, line)):
        return None
    return Waiting(program, flow, line, allowance).longest()[0]


def wait_script(program, line, allowance):
    """A pair (script, moves): behind the script, the moves are a wait with the most rows; None if there is none."""
    check_wait(program, line, allowance)
    flow = flow_of(program)
    if turns_of(endless_stay(program, flow, line)):
        return None
    waiting = Waiting(program, flow, line, allowance)
    _, entry, steps = waiting.longest()
    below = [frame for _, _, _, frame in steps if frame is not None]
    return (way_over(flow, approaches(flow), entry, below), waiting.moves_between(steps))


def wait_ring(program, line, allowance):
    """A pair (script, moves) by which a wait goes on without end, None if there is a longest one."""
    check_wait(program, line, allowance)
    flow = flow_of(program)
    stay = endless_stay(program, flow, line)
    return ring_in(flow, stay, turns_of(stay))
