"""Pairs of cells that are looked at one behind the other, and seen as they never were."""

from maskedlevels.errors import BadCell
from maskedlevels.frames import row_of
from maskedlevels.programs import check_program
from maskedlevels.texts import in_text_order
from maskedlevels.watches import Watch
from maskedlevels.watches import is_waiting
from maskedlevels.ways import script_to_any


def is_cell(program, value):
    """Whether any value is a cell of the program."""
    return type(value) is str and value in program.cells()


def check_pair(program, one, other):
    """Raises BadArgument for what is no program, BadCell for what are no two unlike cells of it."""
    check_program(program)
    if not is_cell(program, one):
        raise BadCell(one)
    if not is_cell(program, other) or one == other:
        raise BadCell(other)


def watch_of(program, one, other):
    """The flow of all runs with watches of two cells."""
    flow = Watch(program, one, other)
    flow.go(flow.root())
    return flow


def sights_in(program, flow, other):
    """A tuple (entry, sight) for each entry at the second look of a sight."""
    seat = program.seat_of(other)
    found = []
    for entry in flow.entries():
        beginning, point, _, store, _, watch = entry
        if row_of(program, entry) == ("look", other) and is_waiting(watch):
            value, seen, *place = watch
            is_seen = (seen >> store[seat]) & 1 == 1
            found.append((entry, (*place, value, beginning[0], point, store[seat], not is_seen)))
    return found


def torn_in(program, flow, other):
    """The entries at the second look of a torn sight."""
    return [entry for entry, sight in sights_in(program, flow, other) if sight[6]]


def pair_sights(program, one, other):
    """All sights of a pair of cells that runs have."""
    check_pair(program, one, other)
    sights = sights_in(program, watch_of(program, one, other), other)
    return in_text_order([sight for _, sight in sights])


def is_torn(program, one, other):
    """Whether some sight of a pair of cells is torn."""
    check_pair(program, one, other)
    return len(torn_in(program, watch_of(program, one, other), other)) > 0


def torn_script(program, one, other):
    """A script with the fewest moves to behind the second look of a torn sight, None if there is none."""
    check_pair(program, one, other)
    flow = watch_of(program, one, other)
    script = script_to_any(flow, torn_in(program, flow, other))
    if script is None:
        return None
    return [*script, ("row", 0)]
