"""Pages: where activations can be with all their frames, and what this asks for.

A page is a tuple (name, first, frames, store, mask): the activation of a line, or of the
main procedure for None, that was begun with the store first, can have these frames, a
tuple of tuples (procedure, point, kept), the lowest first, with this store and mask.
"""

from maskedlevels.frames import is_line
from maskedlevels.frames import is_point
from maskedlevels.programs import is_within
from maskedlevels.states import behind_row
from maskedlevels.states import choices_in
from maskedlevels.steps import greater
from maskedlevels.steps import is_store


def activation_of(program, name):
    """The floor of an activation, and the procedure that it begins with."""
    if name is None:
        return (0, program.main)
    return program.line_of(name)


def first_page(program, name, store):
    """The page with which an activation begins."""
    floor, procedure = activation_of(program, name)
    return (name, store, ((procedure, 0, 0),), store, floor)


def main_page(program):
    """The page with which the main procedure begins."""
    return first_page(program, None, program.first_store())


def is_frame(program, value):
    """Whether any value is a frame of the program."""
    if type(value) is not tuple or len(value) != 3 or value[0] not in program:
        return False
    return is_point(program, value[0], value[1]) and is_within(value[2], 0, program.levels)


def are_frames(program, value):
    """Whether any value is a tuple of frames of the program, at least one."""
    if type(value) is not tuple or len(value) == 0:
        return False
    return all([is_frame(program, frame) for frame in value])


def is_page(program, value):
    """Whether any value is a page of the program."""
    if type(value) is not tuple or len(value) != 5:
        return False
    name, first, frames, store, mask = value
    if name is not None and not is_line(program, name):
        return False
    if not are_frames(program, frames) or not is_store(program, first) or not is_store(program, store):
        return False
    floor, procedure = activation_of(program, name)
    return frames[0][0] == procedure and is_within(mask, floor, program.levels)


def are_pages(program, value):
    """Whether any value is a list or tuple of pages of the program."""
    if type(value) not in (list, tuple):
        return False
    return all([is_page(program, page) for page in value])


def is_at_row(program, page):
    """Whether a page is at a row, and not at the end of a procedure."""
    procedure, point, _ = page[2][-1]
    return program.row_at(procedure, point) is not None


def is_over(program, page):
    """Whether an activation is at its end."""
    return len(page[2]) == 1 and not is_at_row(program, page)


def bound_of(program, page):
    """The bound of a page: the lines above it can be served there."""
    procedure, point, _ = page[2][-1]
    return greater(page[4], program.guard_at(procedure, point))


def lines_at(program, page):
    """The lines that can be served at a page."""
    return program.lines_above(bound_of(program, page))


def rows_behind(program, page):
    """The pages to which a row, or a return of what was called, leads from a page."""
    name, first, frames, store, mask = page
    floor, _ = activation_of(program, name)
    # As if nothing were below: so the end of an activation leads nowhere.
    state = (store, ((floor, mask, frames),))
    found = []
    for choice in choices_in(program, state):
        left, pile = behind_row(program, state, choice)
        _, new, behind = pile[0]
        found.append((name, first, behind, left, new))
    return found


def behind_service(page, left):
    """The page behind the service of a line that left a store."""
    name, first, frames, _, mask = page
    return (name, first, frames, left, mask)


def note_end(ends, begun, left):
    """Notes that an activation, a tuple (line, first), leaves a store; whether this is new."""
    stores = ends.setdefault(begun, {})
    if left in stores:
        return False
    stores[left] = True
    return True


def ends_of(program, pages):
    """A dict from tuples (line, first) to dicts of the stores that these activations leave by some pages."""
    ends = {}
    for page in pages:
        if is_over(program, page):
            note_end(ends, page[:2], page[3])
    return ends


def services_behind(program, page, ends):
    """The pages to which services of lines lead from a page, with the ends that are known."""
    begun = [(line, page[3]) for line in lines_at(program, page)]
    return [behind_service(page, left) for pair in begun for left in ends.get(pair, {})]


def asked_by(program, names, page, ends):
    """The pages that a page asks for: first pages of lines that are among the names, and what follows."""
    asked = rows_behind(program, page)
    asked.extend([first_page(program, line, page[3]) for line in lines_at(program, page) if line in names])
    asked.extend(services_behind(program, page, ends))
    return asked


def missing_pages(program, names, pages, granted):
    """The pages that pages of activations with these names need at the first step, in any order, with doubles.

    What lines leave that are none of the names is granted: tuples (line, first, left).
    """
    had = {page: True for page in pages}
    ends = ends_of(program, list(had))
    for line, first, left in granted:
        note_end(ends, (line, first), left)
    start = main_page(program)
    found = [start] if None in names and start not in had else []
    for page in had:
        found.extend([asked for asked in asked_by(program, names, page, ends) if asked not in had])
    return found
