"""Programs with masked levels: what they are made of, and what they tell of themselves."""

from maskedlevels.errors import BadArgument
from maskedlevels.errors import BadGuards
from maskedlevels.errors import BadLine
from maskedlevels.errors import BadPoint
from maskedlevels.errors import BadProcedure
from maskedlevels.errors import BadProgram

MOST_LEVELS = 4
MOST_VALUES = 6
MOST_CELLS = 6
MOST_STORES = 256
MOST_PROCEDURES = 12
MOST_ROWS = 24
MOST_LINES = 6
MOST_SECTIONS = 3
LONGEST_WORD = 8

# What stands behind the first word of each sort of row.
ROW_PARTS = {
    "set": ("cell", "value"),
    "copy": ("cell", "cell"),
    "add": ("cell", "value"),
    "any": ("cell",),
    "look": ("cell",),
    "if": ("cell", "value", "point"),
    "go": ("point",),
    "either": ("point",),
    "call": ("procedure",),
    "raise": ("level",),
    "mask": ("level",),
    "save": ("cell",),
    "load": ("cell",),
    "keep": (),
    "give": (),
    "open": ("section",),
    "close": ("section",),
}


def is_word(value):
    """Whether any value is a word."""
    if type(value) is not str or not 1 <= len(value) <= LONGEST_WORD:
        return False
    return all(["a" <= sign <= "z" for sign in value])


def is_within(value, low, high):
    """Whether any value is an integer from low to high; True and False are none."""
    return type(value) is int and low <= value <= high


def is_key_of(value, table):
    """Whether any value is one of the words that are the keys of a dict."""
    return type(value) is str and value in table


def is_start(size, start):
    """Whether any value gives start values to cells, not too many for their values."""
    if type(start) is not dict or not 1 <= len(start) <= MOST_CELLS:
        return False
    stores = 1
    for cell, value in start.items():
        if not is_word(cell) or not is_within(value, 0, size - 1):
            return False
        stores = stores * size
    return stores <= MOST_STORES


def is_part(part, sort, bounds):
    """Whether any value is a part of a row, of a sort that ROW_PARTS tells."""
    if sort == "value":
        return is_within(part, 0, bounds["size"] - 1)
    if sort == "level":
        return is_within(part, 0, bounds["levels"])
    if sort == "point":
        return is_within(part, 0, bounds["end"])
    if sort == "procedure":
        return is_key_of(part, bounds["procedures"])
    if sort == "cell":
        return is_key_of(part, bounds["start"])
    return is_word(part) and part not in bounds["start"]


def is_row(row, bounds):
    """Whether any value is a row of a procedure within these bounds."""
    if type(row) is not tuple or len(row) == 0:
        return False
    kind = row[0]
    if type(kind) is not str or kind not in ROW_PARTS:
        return False
    sorts = ROW_PARTS[kind]
    if len(row) != len(sorts) + 1:
        return False
    if kind == "save" and bounds["levels"] >= bounds["size"]:
        return False
    return all([is_part(part, sort, bounds) for part, sort in zip(row[1:], sorts)])


def are_rows(levels, size, start, procedures, rows):
    """Whether the rows of one of the procedures are all right."""
    bounds = {"levels": levels, "size": size, "start": start, "procedures": procedures, "end": len(rows)}
    return all([is_row(row, bounds) for row in rows])


def are_named_lists(procedures):
    """Whether any value is a dict from words to lists, neither too many nor too long."""
    if type(procedures) is not dict or not 1 <= len(procedures) <= MOST_PROCEDURES:
        return False
    for name, rows in procedures.items():
        if not is_word(name) or type(rows) is not list or len(rows) > MOST_ROWS:
            return False
    return True


def sections_of(procedures):
    """The names of all sections that the rows open or close, ascending."""
    found = {row[1]: True for rows in procedures.values() for row in rows if row[0] in ("open", "close")}
    return sorted(found, key=str)


def calls_itself(procedures):
    """Whether some procedure calls itself, by itself or by others."""
    left = {name: [row[1] for row in rows if row[0] == "call"] for name, rows in procedures.items()}
    while left:
        # A procedure that calls none of those left is in no ring of calls.
        done = [name for name, called in left.items() if not any([other in left for other in called])]
        if not done:
            return True
        left = {name: called for name, called in left.items() if name not in done}
    return False


def are_procedures(levels, size, start, procedures):
    """Whether any value is what a program can have as its procedures."""
    if not are_named_lists(procedures):
        return False
    if not all([are_rows(levels, size, start, procedures, rows) for rows in procedures.values()]):
        return False
    return len(sections_of(procedures)) <= MOST_SECTIONS and not calls_itself(procedures)


def are_lines(levels, procedures, lines):
    """Whether any value is what a program can have as its lines."""
    if type(lines) is not dict or len(lines) > MOST_LINES:
        return False
    for line, served in lines.items():
        if not is_word(line) or type(served) is not tuple or len(served) != 2:
            return False
        if not is_within(served[0], 1, levels) or not is_key_of(served[1], procedures):
            return False
    return True


def are_guards(levels, procedures, guards):
    """Whether any value is a dict of guards, with a level for each of its points."""
    if type(guards) is not dict:
        return False
    for spot, level in guards.items():
        if type(spot) is not tuple or len(spot) != 2 or not is_key_of(spot[0], procedures):
            return False
        if not is_within(spot[1], 0, len(procedures[spot[0]])) or not is_within(level, 1, levels):
            return False
    return True


def first_wrong(levels, size, start, procedures, lines, main, guards):
    """The name of the first part that is not as it should be, None if there is none."""
    if not is_within(levels, 1, MOST_LEVELS):
        return "levels"
    if not is_within(size, 2, MOST_VALUES):
        return "size"
    if not is_start(size, start):
        return "start"
    if not are_procedures(levels, size, start, procedures):
        return "procedures"
    if not are_lines(levels, procedures, lines):
        return "lines"
    if not is_key_of(main, procedures):
        return "main"
    if guards is not None and not are_guards(levels, procedures, guards):
        return "guards"
    return None


def ranked_lines(levels, lines):
    """The lines in the order in which they are served: the highest level first, then ascending."""
    found = []
    for level in reversed(range(1, levels + 1)):
        found.extend([line for line in sorted(lines, key=str) if lines[line][0] == level])
    return found


class Program:
    """A program with masked levels; it never changes."""

    def __init__(self, levels, size, start, procedures, lines, main="main", guards=None):
        part = first_wrong(levels, size, start, procedures, lines, main, guards)
        if part is not None:
            raise BadProgram(part)
        self._levels = levels
        self._size = size
        self._start = {cell: value for cell, value in start.items()}
        self._procedures = {name: list(rows) for name, rows in procedures.items()}
        self._lines = {line: served for line, served in lines.items()}
        self._main = main
        self._guards = {}
        if guards is not None:
            self._guards = {spot: level for spot, level in guards.items()}
        self._cells = sorted(start, key=str)
        self._sections = sections_of(procedures)
        self._seats = {name: seat for seat, name in enumerate(self._cells + self._sections)}
        self._ranked = ranked_lines(levels, lines)

    @property
    def levels(self):
        return self._levels

    @property
    def size(self):
        return self._size

    @property
    def main(self):
        return self._main

    def cells(self):
        """The cells, ascending."""
        return list(self._cells)

    def sections(self):
        """The sections, ascending."""
        return list(self._sections)

    def procedures(self):
        """The procedures, ascending."""
        return sorted(self._procedures, key=str)

    def lines(self):
        """The lines, ascending."""
        return sorted(self._lines, key=str)

    def guards(self):
        """The guards, a dict from tuples (procedure, point) to levels."""
        return {spot: level for spot, level in self._guards.items()}

    def __getitem__(self, procedure):
        """The rows of a procedure."""
        if not is_key_of(procedure, self._procedures):
            raise BadProcedure(procedure)
        return list(self._procedures[procedure])

    def __iter__(self):
        raise TypeError("a program is not iterated over")

    def __contains__(self, procedure):
        return is_key_of(procedure, self._procedures)

    def line_of(self, line):
        """The level of a line and the procedure that serves it."""
        if not is_key_of(line, self._lines):
            raise BadLine(line)
        return self._lines[line]

    def guard_at(self, procedure, point):
        """The guard of a point, 0 if there is none."""
        if not is_key_of(procedure, self._procedures):
            raise BadProcedure(procedure)
        if not is_within(point, 0, len(self._procedures[procedure])):
            raise BadPoint(point)
        return self._guards.get((procedure, point), 0)

    def first_store(self):
        """The store of the start: no section is open."""
        return tuple([self._start[cell] for cell in self._cells] + [0] * len(self._sections))

    def with_guards(self, guards):
        """The program with just these guards."""
        if not are_guards(self._levels, self._procedures, guards):
            raise BadGuards(guards)
        return Program(
            self._levels, self._size, self._start, self._procedures, self._lines, self._main, guards
        )

    def seat_of(self, name):
        """The index in a store of a cell or a section, None for any other value."""
        if not is_key_of(name, self._seats):
            return None
        return self._seats[name]

    def row_at(self, procedure, point):
        """The row at a point of a procedure, None at its end."""
        rows = self._procedures[procedure]
        if point == len(rows):
            return None
        return rows[point]

    def lines_above(self, bound):
        """The lines whose level is greater than the bound, in the order in which they are served."""
        return [line for line in self._ranked if self._lines[line][0] > bound]

    def __eq__(self, other):
        return (
            isinstance(other, Program)
            and self._levels == other._levels
            and self._size == other._size
            and self._start == other._start
            and self._procedures == other._procedures
            and self._lines == other._lines
            and self._main == other._main
            and self._guards == other._guards
        )


def check_program(program):
    """Raises BadArgument for any value that is no program."""
    if not isinstance(program, Program):
        raise BadArgument(program)
