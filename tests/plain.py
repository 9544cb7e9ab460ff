"""A second way to play runs, by plain assignment, to hold the machine against."""

import random

from maskedlevels.programs import Program


class Plain:
    """Plays a program move by move, with a pile of activations that are dicts."""

    def __init__(self, program):
        self.program = program
        self.cells = dict(zip(program.cells() + program.sections(), program.first_store()))
        self.pile = [{"floor": 0, "mask": 0, "frames": [[program.main, 0, 0]]}]

    def top(self):
        return self.pile[-1], self.pile[-1]["frames"][-1]

    def place(self):
        activation, (procedure, point, kept) = self.top()
        store = tuple(self.cells[name] for name in self.program.cells() + self.program.sections())
        return (procedure, point, kept, store, activation["mask"], activation["floor"])

    def frames(self):
        return [tuple(frame) for activation in self.pile for frame in activation["frames"]]

    def at_rest(self):
        _, frame = self.top()
        return len(self.frames()) == 1 and frame[1] == len(self.program[frame[0]])

    def moves(self):
        activation, (procedure, point, _) = self.top()
        bound = max(activation["mask"], self.program.guard_at(procedure, point))
        lines = [(-self.program.line_of(line)[0], line) for line in self.program.lines()]
        serves = [("serve", line) for level, line in sorted(lines) if -level > bound]
        if self.at_rest():
            return serves
        rows = self.program[procedure]
        kind = rows[point][0] if point < len(rows) else "return"
        many = {"any": self.program.size, "either": 2}.get(kind, 1)
        return serves + [("row", choice) for choice in range(many)]

    def make(self, move):
        if move[0] == "serve":
            level, procedure = self.program.line_of(move[1])
            self.pile.append({"floor": level, "mask": level, "frames": [[procedure, 0, 0]]})
            return
        activation, frame = self.top()
        rows = self.program[frame[0]]
        if frame[1] == len(rows):
            activation["frames"].pop()
            if not activation["frames"]:
                self.pile.pop()
            return
        row = rows[frame[1]]
        frame[1] += 1
        getattr(self, "row_" + row[0])(activation, frame, move[1], *row[1:])

    def row_set(self, activation, frame, choice, cell, value):
        self.cells[cell] = value

    def row_copy(self, activation, frame, choice, cell, other):
        self.cells[cell] = self.cells[other]

    def row_add(self, activation, frame, choice, cell, value):
        self.cells[cell] = (self.cells[cell] + value) % self.program.size

    def row_any(self, activation, frame, choice, cell):
        self.cells[cell] = choice

    def row_look(self, activation, frame, choice, cell):
        pass

    def row_if(self, activation, frame, choice, cell, value, point):
        if self.cells[cell] == value:
            frame[1] = point

    def row_go(self, activation, frame, choice, point):
        frame[1] = point

    def row_either(self, activation, frame, choice, point):
        if choice:
            frame[1] = point

    def row_call(self, activation, frame, choice, procedure):
        activation["frames"].append([procedure, 0, 0])

    def row_raise(self, activation, frame, choice, level):
        activation["mask"] = max(activation["mask"], level)

    def row_mask(self, activation, frame, choice, level):
        activation["mask"] = max(activation["floor"], level)

    def row_save(self, activation, frame, choice, cell):
        self.cells[cell] = activation["mask"]

    def row_load(self, activation, frame, choice, cell):
        activation["mask"] = max(activation["floor"], min(self.program.levels, self.cells[cell]))

    def row_keep(self, activation, frame, choice):
        frame[2] = activation["mask"]

    def row_give(self, activation, frame, choice):
        activation["mask"] = max(activation["floor"], frame[2])

    def row_open(self, activation, frame, choice, section):
        self.cells[section] = 1

    def row_close(self, activation, frame, choice, section):
        self.cells[section] = 0


def any_row(draw, cells, size, levels, names, end):
    """A row of any sort; names are those of the procedures that may be called."""
    cell, value, level = draw.choice(cells), draw.randrange(size), draw.randrange(levels + 1)
    rows = [
        ("set", cell, value), ("copy", cell, draw.choice(cells)), ("add", cell, value), ("any", cell), ("look", cell),
        ("if", cell, value, draw.randrange(end + 1)), ("go", draw.randrange(end + 1)),
        ("either", draw.randrange(end + 1)), ("raise", level), ("mask", level), ("load", cell), ("keep",), ("give",),
        ("open", "s"), ("close", "s"), ("open", "r"),
    ]
    if levels < size:
        rows.append(("save", cell))
    if names:
        rows = rows + [("call", name) for name in names]
    return draw.choice(rows)


def any_program(seed):
    """A program of all sorts of rows, the same one for the same seed."""
    draw = random.Random(seed)
    levels, size, cells = draw.randint(1, 4), draw.randint(2, 6), ["c", "d", "e"][:draw.randint(1, 3)]
    names = ["main", "work", "more", "sub", "low"]
    procedures = {}
    for at, name in enumerate(names):
        end = draw.randint(0, 6)
        later = names[at + 1:]
        procedures[name] = [any_row(draw, cells, size, levels, later, end) for _ in range(end)]
    lines = {line: (draw.randint(1, levels), draw.choice(names)) for line in "tuvw"[:draw.randint(1, 4)]}
    guards = {}
    for _ in range(draw.randint(0, 4)):
        name = draw.choice(names)
        guards[(name, draw.randint(0, len(procedures[name])))] = draw.randint(1, levels)
    start = {cell: draw.randrange(size) for cell in cells}
    return Program(levels, size, start, procedures, lines, guards=guards)
