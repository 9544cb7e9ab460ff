"""States of runs, and the states to which moves lead; no state ever changes.

A state is a tuple (store, pile): the pile has a tuple (floor, mask, frames) for
each activation that is not over, the lowest first, and frames has a tuple
(procedure, point, kept) for each of its frames, the lowest first.
"""

from maskedlevels.steps import can_serve
from maskedlevels.steps import choices_of
from maskedlevels.steps import stand_behind


def first_state(program):
    """The state in which each run begins."""
    return (program.first_store(), ((0, 0, ((program.main, 0, 0),)),))


def place_of(state):
    """The place where a state is."""
    store, pile = state
    floor, mask, frames = pile[-1]
    procedure, point, kept = frames[-1]
    return (procedure, point, kept, store, mask, floor)


def frames_of(state):
    """The frames of all activations, the lowest first."""
    _, pile = state
    return [frame for _, _, frames in pile for frame in frames]


def is_resting(program, state):
    """Whether the main procedure has ended and no line is being served."""
    _, pile = state
    procedure, point, _ = pile[-1][2][-1]
    return len(frames_of(state)) == 1 and program.row_at(procedure, point) is None


def lines_in(program, state):
    """The lines that can be served, in the order of can_serve."""
    procedure, point, _, _, mask, _ = place_of(state)
    return can_serve(program, procedure, point, mask)


def choices_in(program, state):
    """The choices of the row moves that can be made, ascending."""
    if is_resting(program, state):
        return []
    procedure, point, _, _, _, _ = place_of(state)
    row = program.row_at(procedure, point)
    if row is None:
        return [0]
    return choices_of(program, row)


def moves_in(program, state):
    """All moves that can be made: the lines first, then the rows."""
    serves = [("serve", line) for line in lines_in(program, state)]
    return serves + [("row", choice) for choice in choices_in(program, state)]


def behind_serve(program, state, line):
    """The state behind the service of a line that can be served."""
    store, pile = state
    level, procedure = program.line_of(line)
    return (store, pile + ((level, level, ((procedure, 0, 0),)),))


def behind_end(state):
    """The state behind the return of a frame that is at its end."""
    store, pile = state
    floor, mask, frames = pile[-1]
    if len(frames) == 1:
        return (store, pile[:-1])
    return (store, pile[:-1] + ((floor, mask, frames[:-1]),))


def behind_row(program, state, choice):
    """The state behind a row, or behind a return, with a choice that can be made."""
    store, pile = state
    floor, mask, frames = pile[-1]
    procedure, point, kept = frames[-1]
    row = program.row_at(procedure, point)
    if row is None:
        return behind_end(state)
    if row[0] == "call":
        called = frames[:-1] + ((procedure, point + 1, kept), (row[1], 0, 0))
        return (store, pile[:-1] + ((floor, mask, called),))
    stand = (point, kept, store, mask, floor)
    point, kept, store, mask, floor = stand_behind(program, row, stand, choice)
    return (store, pile[:-1] + ((floor, mask, frames[:-1] + ((procedure, point, kept),)),))


def behind_move(program, state, move):
    """The state behind a value that has the form of a move; None if it cannot be made."""
    kind, what = move
    if kind == "serve":
        if what not in lines_in(program, state):
            return None
        return behind_serve(program, state, what)
    if what not in choices_in(program, state):
        return None
    return behind_row(program, state, what)


def steps_from(program, state):
    """A tuple (move, state behind) for each move that can be made, in the order of the moves."""
    found = [(("serve", line), behind_serve(program, state, line)) for line in lines_in(program, state)]
    choices = choices_in(program, state)
    found.extend([(("row", choice), behind_row(program, state, choice)) for choice in choices])
    return found


def space_of(program, most):
    """A dict from all states that can be come to, the first one first, to their steps.

    None if they are more than most, which is None for any number of them.
    """
    first = first_state(program)
    seen = {first: True}
    todo = [first]
    space = {}
    while todo:
        if most is not None and len(seen) > most:
            return None
        state = todo.pop()
        space[state] = steps_from(program, state)
        for _, behind in space[state]:
            if behind not in seen:
                seen[behind] = True
                todo.append(behind)
    return space
