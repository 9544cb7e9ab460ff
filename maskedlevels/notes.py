"""Moves, scripts and programs as texts: what is written is read back as it was."""

from maskedlevels.errors import BadArgument
from maskedlevels.errors import BadProgram
from maskedlevels.errors import BadText
from maskedlevels.machine import is_move
from maskedlevels.programs import ROW_PARTS
from maskedlevels.programs import Program
from maskedlevels.programs import check_program
from maskedlevels.programs import is_within
from maskedlevels.programs import is_word

NO_MOVES = "none"
GREATEST_CHOICE = 9

# What stands behind the first word of each thing of a note that is no row.
HEAD_PARTS = {
    "levels": ("level",),
    "size": ("value",),
    "main": ("procedure",),
    "cell": ("cell", "value"),
    "line": ("line", "level", "procedure"),
    "guard": ("procedure", "point", "level"),
    "proc": ("procedure",),
}
NUMBERS = ("level", "value", "point")


def word_of(thing):
    """The word of a tuple: its parts with colons between."""
    return ":".join([str(part) for part in thing])


def write_move(move):
    """The word of a move."""
    if not is_move(move) or (move[0] == "row" and not is_within(move[1], 0, GREATEST_CHOICE)):
        raise BadArgument(move)
    return word_of(move)


def move_in(word):
    """The move that a text tells, None if it tells none."""
    kind, *parts = word.split(":")
    if len(parts) != 1:
        return None
    if kind == "serve" and is_word(parts[0]):
        return (kind, parts[0])
    if kind == "row" and len(parts[0]) == 1 and is_number(parts[0]):
        return (kind, int(parts[0]))
    return None


def read_move(word):
    """The move of a word."""
    move = move_in(word) if type(word) is str else None
    if move is None:
        raise BadText(word)
    return move


def write_script(script):
    """The text of a script: the words of its moves."""
    if type(script) is not list:
        raise BadArgument(script)
    if not script:
        return NO_MOVES
    return " ".join([write_move(move) for move in script])


def read_script(text):
    """The list of the moves of a text."""
    if type(text) is not str:
        raise BadText(text)
    if text == NO_MOVES:
        return []
    moves = [move_in(word) for word in text.split(" ")]
    if None in moves:
        raise BadText(text)
    return moves


def is_number(text):
    """Whether a text is a number of one or two figures without a needless zero."""
    if not 1 <= len(text) <= 2 or not all(["0" <= sign <= "9" for sign in text]):
        return False
    return len(text) == 1 or text[0] != "0"


def guards_of(program):
    """A tuple (procedure, point, level) for each guard, by procedure and then point."""
    found = []
    for procedure in program.procedures():
        for point in range(len(program[procedure]) + 1):
            level = program.guard_at(procedure, point)
            if level > 0:
                found.append((procedure, point, level))
    return found


def things_of(program):
    """All things that a note tells of a program, in their order: tuples of a head and its parts."""
    things = [("levels", program.levels), ("size", program.size), ("main", program.main)]
    for cell, value in zip(program.cells(), program.first_store()):
        things.append(("cell", cell, value))
    for line in program.lines():
        level, procedure = program.line_of(line)
        things.append(("line", line, level, procedure))
    things.extend([("guard", *guard) for guard in guards_of(program)])
    for procedure in program.procedures():
        things.append(("proc", procedure))
        things.extend(program[procedure])
    return things


def write_program(program):
    """The note of a program."""
    check_program(program)
    return " ".join([word_of(thing) for thing in things_of(program)])


def sorts_of(head):
    """The sorts of the parts behind the first word of a thing or a row; None if there is no such thing."""
    if head in HEAD_PARTS:
        return HEAD_PARTS[head]
    return ROW_PARTS.get(head)


def thing_in(word):
    """The thing or the row that a word tells, None if it tells none."""
    head, *parts = word.split(":")
    sorts = sorts_of(head)
    if sorts is None or len(parts) != len(sorts):
        return None
    thing = [head]
    for part, sort in zip(parts, sorts):
        if sort not in NUMBERS:
            thing.append(part)
        elif is_number(part):
            thing.append(int(part))
        else:
            return None
    return tuple(thing)


def procedures_in(things):
    """The procedures that things tell: each with the rows behind it."""
    found = {}
    rows = []
    for thing in things:
        if thing[0] == "proc":
            rows = []
            found[thing[1]] = rows
        elif thing[0] in ROW_PARTS:
            rows.append(thing)
    return found


def program_in(note):
    """A program that a text tells, in whatever order; None if it tells none."""
    things = [thing_in(word) for word in note.split(" ")]
    if None in things:
        return None
    single = {thing[0]: thing[1] for thing in things if thing[0] in ("levels", "size", "main")}
    start = {thing[1]: thing[2] for thing in things if thing[0] == "cell"}
    lines = {thing[1]: thing[2:] for thing in things if thing[0] == "line"}
    guards = {thing[1:3]: thing[3] for thing in things if thing[0] == "guard"}
    procedures = procedures_in(things)
    try:
        return Program(
            single.get("levels"), single.get("size"), start, procedures, lines, single.get("main"), guards
        )
    except BadProgram:
        return None


def read_program(note):
    """The program of a note."""
    program = program_in(note) if type(note) is str else None
    # What is in another order, told twice or left out makes a program with another note.
    if program is None or write_program(program) != note:
        raise BadText(note)
    return program
