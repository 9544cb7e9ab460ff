"""What single rows do, stores, and which lines can be served at a point."""

from maskedlevels.errors import BadCell
from maskedlevels.errors import BadMask
from maskedlevels.errors import BadStore
from maskedlevels.programs import check_program
from maskedlevels.programs import is_within

# A stand is where a frame stands: (point, kept, store, mask, floor).
WRITING = ("set", "copy", "add", "any", "save", "open", "close")
MASKING = ("raise", "mask", "load", "give")


def greater(one, other):
    """The greater one of two levels."""
    return one if one > other else other


def lesser(one, other):
    """The lesser one of two levels."""
    return one if one < other else other


def is_store(program, value):
    """Whether any value is a store of the program."""
    check_program(program)
    cells = len(program.cells())
    seats = cells + len(program.sections())
    if type(value) is not tuple or len(value) != seats:
        return False
    tops = [program.size - 1 if seat < cells else 1 for seat in range(seats)]
    return all([is_within(part, 0, top) for part, top in zip(value, tops)])


def value_in(program, store, name):
    """The value of a cell in a store; for a section 1 if it is open, else 0."""
    if not is_store(program, store):
        raise BadStore(store)
    seat = program.seat_of(name)
    if seat is None:
        raise BadCell(name)
    return store[seat]


def can_serve(program, procedure, point, mask):
    """The lines that can be served at a point with a mask, the highest level first, then ascending."""
    check_program(program)
    guard = program.guard_at(procedure, point)
    if not is_within(mask, 0, program.levels):
        raise BadMask(mask)
    return program.lines_above(greater(mask, guard))


def choices_of(program, row):
    """The choices with which a row can be done, ascending."""
    if row[0] == "any":
        return list(range(program.size))
    if row[0] == "either":
        return [0, 1]
    return [0]


def written(program, row, stand, choice):
    """The value that a writing row gives to its cell or section."""
    _, _, store, mask, _ = stand
    kind = row[0]
    if kind == "set":
        return row[2]
    if kind == "copy":
        return store[program.seat_of(row[2])]
    if kind == "add":
        return (store[program.seat_of(row[1])] + row[2]) % program.size
    if kind == "any":
        return choice
    if kind == "save":
        return mask
    return 1 if kind == "open" else 0


def masked(program, row, stand):
    """The mask behind a masking row."""
    _, kept, store, mask, floor = stand
    kind = row[0]
    # The mask is never less than the floor, so what raises it need not look at the floor.
    if kind == "raise":
        return greater(mask, row[1])
    if kind == "mask":
        return greater(row[1], floor)
    if kind == "load":
        return greater(lesser(store[program.seat_of(row[1])], program.levels), floor)
    return greater(kept, floor)


def next_point(program, row, stand, choice):
    """Where it goes on behind a row."""
    point, _, store, _, _ = stand
    kind = row[0]
    if kind == "go":
        return row[1]
    if kind == "if" and store[program.seat_of(row[1])] == row[2]:
        return row[3]
    if kind == "either" and choice == 1:
        return row[1]
    return point + 1


def stand_behind(program, row, stand, choice):
    """Where a frame stands behind a row that is no call, done with one of its choices."""
    _, kept, store, mask, floor = stand
    kind = row[0]
    point = next_point(program, row, stand, choice)
    if kind in WRITING:
        seat = program.seat_of(row[1])
        value = written(program, row, stand, choice)
        return (point, kept, store[:seat] + (value,) + store[seat + 1:], mask, floor)
    if kind in MASKING:
        return (point, kept, store, masked(program, row, stand), floor)
    if kind == "keep":
        return (point, mask, store, mask, floor)
    return (point, kept, store, mask, floor)
