"""The longest stretches of rows that keep the lines of a level out."""

from maskedlevels.errors import BadNumber
from maskedlevels.flows import flow_of
from maskedlevels.frames import begun_at
from maskedlevels.frames import behind_frame
from maskedlevels.frames import first_entry
from maskedlevels.graphs import farthest
from maskedlevels.graphs import way_in
from maskedlevels.programs import check_program
from maskedlevels.programs import is_within
from maskedlevels.stays import LongStay
from maskedlevels.stays import Stay
from maskedlevels.stays import ring_in
from maskedlevels.stays import turns_of
from maskedlevels.ways import approaches
from maskedlevels.ways import way_over

# A stretch may begin in what was called before it and end in what is called in it. So it
# first goes OUT of calls, and from some entry on INTO calls: what it calls and leaves again
# are steps of a LongStay. A node is a tuple (OUT or INTO, entry), and a step between nodes
# a tuple (rows, node behind, step of the stay or None, entry of the call that returns or None).
OUT = "out"
INTO = "into"


def check_level(program, level):
    """Raises BadArgument for what is no program, BadNumber for what is no level of its lines."""
    check_program(program)
    if not is_within(level, 1, program.levels):
        raise BadNumber(level)


def returns_to(flow):
    """A dict from beginnings to the entries at which a call begins them."""
    found = {}
    for entry, move, begun in flow.begun():
        if move[0] == "row":
            found.setdefault(begun, []).append(entry)
    return found


def steps_out(stay, callers, entry):
    """The steps of a stretch that was in no call that has not returned."""
    found = [(step[0], (OUT, step[1]), step, None) for step in stay.steps(entry)]
    if stay.is_kept_end(entry):
        for caller in callers.get(entry[0], []):
            found.append((0, (OUT, behind_frame(caller, ("row", 0), entry)), None, caller))
    found.append((0, (INTO, entry), None, None))
    return found


def steps_into(program, stay, entry):
    """The steps of a stretch that returns from no frame any more in which it is."""
    found = [(step[0], (INTO, step[1]), step, None) for step in stay.steps(entry)]
    if stay.is_kept(entry):
        for move, begun in begun_at(program, entry):
            if move[0] == "row":
                first = first_entry(begun)
                found.append((1, (INTO, first), (1, first, move, None), None))
    return found


def stretches(program, flow, stay):
    """The ways of all stretches, each with as many rows as can be."""
    callers = returns_to(flow)
    graph = {}
    for entry in flow.entries():
        graph[(OUT, entry)] = steps_out(stay, callers, entry)
        graph[(INTO, entry)] = steps_into(program, stay, entry)
    return farthest(graph, [(OUT, entry) for entry in flow.entries()])


def longest_of(found):
    """A node to which a way with the most rows leads, and these rows."""
    best = None
    most = -1
    for node, way in found.items():
        if way[0] > most:
            best = node
            most = way[0]
    return (best, most)


def longest_in(program, flow, level):
    """The greatest number of rows of a stretch, by the flow of all runs; None if there is none."""
    if turns_of(Stay(program, flow, level, True)):
        return None
    return longest_of(stretches(program, flow, LongStay(program, flow, level, True)))[1]


def longest(program, level):
    """The greatest number of rows of a stretch that some run has, None if there is no greatest one."""
    check_level(program, level)
    return longest_in(program, flow_of(program), level)


def stretch_ring(program, level):
    """A pair (script, moves) by which stretches are as long as one likes, None if there is a longest one."""
    check_level(program, level)
    flow = flow_of(program)
    stay = Stay(program, flow, level, True)
    return ring_in(flow, stay, turns_of(stay))


def moves_along(stay, steps):
    """The moves of steps between nodes: tuples (move, whether it is a row of the activation)."""
    found = []
    for _, _, step, caller in steps:
        if step is not None:
            found.extend(stay.moves_of([step]))
        elif caller is not None:
            found.append((("row", 0), False))
    return found


def stretch_script(program, level):
    """A pair (script, rows) whose last rows are a longest stretch, None if there is no longest one."""
    check_level(program, level)
    flow = flow_of(program)
    if turns_of(Stay(program, flow, level, True)):
        return None
    stay = LongStay(program, flow, level, True)
    found = stretches(program, flow, stay)
    node, many = longest_of(found)
    if many == 0:
        return ([], 0)
    first, steps = way_in(found, node)
    moves = moves_along(stay, steps)
    # What is done behind the last row is no part of the stretch.
    while not moves[-1][1]:
        moves.pop()
    callers = [(caller, ("row", 0)) for _, _, _, caller in steps if caller is not None]
    script = way_over(flow, approaches(flow), first[1], callers)
    script.extend([move for move, _ in moves])
    return (script, many)
