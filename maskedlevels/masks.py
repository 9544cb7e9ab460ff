"""The masks with which procedures are called, and those with which they return."""

from maskedlevels.errors import BadProcedure
from maskedlevels.flows import flow_of
from maskedlevels.programs import check_program
from maskedlevels.texts import in_text_order
from maskedlevels.ways import approaches
from maskedlevels.ways import way_to


def check_procedure(program, procedure):
    """Raises BadArgument for what is no program, BadProcedure for what is no procedure of it."""
    check_program(program)
    if procedure not in program:
        raise BadProcedure(procedure)


def returns_in(program, flow, procedure):
    """A tuple (entry, end) for each end of a frame that a call at an entry began.

    The entry is None for the main procedure, which begins at the start without a call.
    """
    found = []
    if procedure == program.main:
        found.extend([(None, end) for end in flow.ends(flow.root())])
    for entry, move, begun in flow.begun():
        if move[0] == "row" and begun[0] == procedure:
            found.extend([(entry, end) for end in flow.ends(begun)])
    return found


def masks_of(end):
    """The mask with which a frame began, and the one at its end."""
    return (end[0][3], end[4])


def masks_left(program, procedure):
    """All pairs (mask at the call, mask at the return) that some run has."""
    check_procedure(program, procedure)
    returns = returns_in(program, flow_of(program), procedure)
    # Levels have one figure each, so the order of the texts is that of the pairs.
    return in_text_order([masks_of(end) for _, end in returns])


def keeps(program, procedure):
    """Whether a procedure always returns with the mask with which it was called."""
    return all([before == behind for before, behind in masks_left(program, procedure)])


def left_script(program, procedure):
    """A script to the end of a procedure with another mask than it was called with, None if there is none."""
    check_procedure(program, procedure)
    flow = flow_of(program)
    for entry, end in returns_in(program, flow, procedure):
        before, behind = masks_of(end)
        if before != behind:
            if entry is None:
                return flow.moves_to(end)
            return [*way_to(flow, approaches(flow), entry), ("row", 0), *flow.moves_to(end)]
    return None
