"""Consoles that answer rows of words about a program in a session."""

from maskedlevels.errors import NoRow
from maskedlevels.frames import is_line
from maskedlevels.masks import masks_left
from maskedlevels.notes import guards_of
from maskedlevels.notes import is_number
from maskedlevels.notes import write_move
from maskedlevels.piles import deepest
from maskedlevels.programs import is_within
from maskedlevels.reached import masks_at
from maskedlevels.sessions import Session
from maskedlevels.starving import endless
from maskedlevels.starving import starved
from maskedlevels.starving import starving
from maskedlevels.stretches import longest

# What stands behind the first word of each row.
CONSOLE_PARTS = {
    "guard": ("procedure", "point", "guard"),
    "undo": (),
    "guards": (),
    "changes": (),
    "masks": ("procedure",),
    "starved": (),
    "endless": (),
    "longest": ("level",),
    "deepest": (),
    "reached": ("procedure", "point"),
    "script": ("line",),
}


def number_in(word, low, high):
    """The number from low to high that a word tells, None if it tells none."""
    if not is_number(word) or not is_within(int(word), low, high):
        return None
    return int(word)


def part_in(program, sort, word, parts):
    """What a word tells behind some parts of a row, None if it tells nothing of this sort."""
    if sort == "procedure":
        return word if word in program else None
    if sort == "line":
        return word if is_line(program, word) else None
    if sort == "point":
        return number_in(word, 0, len(program[parts[-1]]))
    return number_in(word, 1 if sort == "level" else 0, program.levels)


def parts_in(program, row):
    """The first word of a row and what the others tell, a list; None for any value that is no row."""
    if type(row) is not str:
        return None
    head, *words = row.split(" ")
    if head not in CONSOLE_PARTS or len(words) != len(CONSOLE_PARTS[head]):
        return None
    parts = [head]
    for word, sort in zip(words, CONSOLE_PARTS[head]):
        part = part_in(program, sort, word, parts)
        if part is None:
            return None
        parts.append(part)
    return parts


def texts_of(values):
    """Each value as a text."""
    return [str(value) for value in values]


def words_of(script):
    """The words of the moves of a script."""
    return [write_move(move) for move in script]


def told_script(program, line):
    """How a line is starved: the words of a script and of a ring."""
    pair = starving(program, line)
    if pair is None:
        return ["never"]
    script, ring = pair
    return [*words_of(script), "ring", *words_of(ring)]


def told_longest(program, level):
    """The rows of a longest stretch."""
    rows = longest(program, level)
    return ["none" if rows is None else str(rows)]


def told_of(program, head, parts):
    """What is told of a program."""
    if head == "guards":
        return [f"{procedure} {point} {level}" for procedure, point, level in guards_of(program)]
    if head == "masks":
        return [f"{before} {behind}" for before, behind in masks_left(program, parts[0])]
    if head == "starved":
        return starved(program)
    if head == "endless":
        return texts_of(endless(program))
    if head == "longest":
        return told_longest(program, parts[0])
    if head == "deepest":
        return texts_of([deepest(program)])
    if head == "reached":
        return texts_of(masks_at(program, parts[0], parts[1]))
    return told_script(program, parts[0])


class Console:
    """Answers rows of words; guards that are set stay in its session."""

    def __init__(self, program):
        self._session = Session(program)

    def say(self, row):
        """The answer to a row: a list of texts."""
        program = self._session.guarded()
        told = parts_in(program, row)
        if told is None:
            raise NoRow(row)
        head, *parts = told
        if head == "guard":
            self._session.guard(parts[0], parts[1], parts[2])
            return []
        if head == "undo":
            self._session.undo()
            return []
        if head == "changes":
            return texts_of([len(self._session)])
        return told_of(program, head, parts)
