"""A player that knows how each frame began, and goes through all moves; the tests hold the answers against it."""

import random

from maskedlevels.programs import Program
from tests.plain import Plain, any_row


class Traced(Plain):
    """A plain player that keeps beside each frame how it began."""

    def __init__(self, program, beginning=None):
        super().__init__(program)
        if beginning is None:
            beginning = (program.main, 0, program.first_store(), 0)
        procedure, floor, store, mask = beginning
        self.names = program.cells() + program.sections()
        self.cells = dict(zip(self.names, store))
        self.pile = [{"floor": floor, "mask": mask, "frames": [[procedure, 0, 0]], "begun": [beginning]}]

    def store(self):
        return tuple(self.cells[name] for name in self.names)

    def make(self, move):
        before = sum(len(activation["frames"]) for activation in self.pile)
        super().make(move)
        after = sum(len(activation["frames"]) for activation in self.pile)
        if after == before + 1:
            top = self.pile[-1]
            beginning = (top["frames"][-1][0], top["floor"], self.store(), top["mask"])
            top.setdefault("begun", []).append(beginning)
        elif after == before - 1 and len(self.pile[-1]["begun"]) > len(self.pile[-1]["frames"]):
            self.pile[-1]["begun"].pop()

    def entry(self):
        _, point, kept, store, mask, _ = self.place()
        return (self.pile[-1]["begun"][-1], point, kept, store, mask)

    def state(self):
        pile = tuple(
            (part["floor"], part["mask"], tuple(map(tuple, part["frames"])), tuple(part["begun"])) for part in self.pile
        )
        return (self.store(), pile)

    def stand(self, state):
        store, pile = state
        self.cells = dict(zip(self.names, store))
        self.pile = [
            {"floor": floor, "mask": mask, "frames": [list(frame) for frame in frames], "begun": list(begun)}
            for floor, mask, frames, begun in pile
        ]


def walk(program, beginning=None, most=4000):
    """All states from a beginning on, each with the fewest moves to it; None if they are more than most."""
    player = Traced(program, beginning)
    found = {player.state(): 0}
    todo = [player.state()]
    for state in todo:
        player.stand(state)
        for move in player.moves():
            player.stand(state)
            player.make(move)
            behind = player.state()
            if behind not in found:
                found[behind] = found[state] + 1
                todo.append(behind)
        if len(found) > most:
            return None
    return found


def entries_in(program, states):
    """A dict from the entries at some states to the fewest moves to them."""
    player, found = Traced(program), {}
    for state, moves in states.items():
        player.stand(state)
        entry = player.entry()
        found[entry] = min(moves, found.get(entry, moves))
    return found


def place_in(entry):
    (procedure, floor, _, _), point, kept, store, mask = entry
    return (procedure, point, kept, store, mask, floor)


def places_in(entries):
    """A dict from the places of some entries to the fewest moves to them."""
    found = {}
    for entry, moves in entries.items():
        place = place_in(entry)
        found[place] = min(moves, found.get(place, moves))
    return found


def ends_in(program, states):
    """All tuples (store, mask) with which the lowest frame of some states is at its end, with nothing above it."""
    found = set()
    for store, pile in states:
        _, mask, frames, _ = pile[0]
        procedure, point, _ = frames[0]
        if len(pile) == len(frames) == 1 and point == len(program[procedure]):
            found.add((store, mask))
    return found


def few_program(seed):
    """A program of all sorts of rows with few states."""
    draw = random.Random(seed)
    levels, size, cells = draw.randint(1, 4), draw.randint(2, 4), ["c", "d"][:draw.randint(1, 2)]
    names = ["main", "work", "sub"]
    procedures = {}
    for at, name in enumerate(names):
        end = draw.randint(2, 6) if name == "main" else draw.randint(0, 3)
        procedures[name] = [any_row(draw, cells, size, levels, names[at + 1:], end) for _ in range(end)]
    serving = draw.choice([names, names[1:], names[1:]])
    lines = {line: (draw.randint(1, levels), draw.choice(serving)) for line in "tuv"[:draw.randint(1, 3)]}
    guards = {}
    for _ in range(draw.randint(0, 4)):
        name = draw.choice(names)
        guards[(name, draw.randint(0, len(procedures[name])))] = draw.randint(1, levels)
    start = {cell: draw.randrange(size) for cell in cells}
    return Program(levels, size, start, procedures, lines, guards=guards)


def walked_programs(many, most=4000):
    """Programs with few states, each with the entries that its runs come to, and the fewest moves to them."""
    for seed in range(many):
        program = few_program(seed)
        states = walk(program, most=most)
        if states is not None:
            yield program, entries_in(program, states)


def any_beginning(draw, program):
    """A beginning of the program, whether or not a run comes to it."""
    floor = draw.randint(0, program.levels)
    return (draw.choice(program.procedures()), floor, any_store(draw, program), draw.randint(floor, program.levels))


def any_store(draw, program):
    """A store of the program."""
    values = [draw.randrange(program.size) for _ in program.cells()]
    return tuple(values + [draw.randrange(2) for _ in program.sections()])


def any_place(draw, program):
    """A place of the program, whether or not it can be come to."""
    procedure, floor = draw.choice(program.procedures()), draw.randint(0, program.levels)
    return (
        procedure, draw.randint(0, len(program[procedure])), draw.randint(0, program.levels),
        any_store(draw, program), draw.randint(floor, program.levels), floor,
    )


def any_entry(draw, program):
    """An entry of the program, whether or not a run comes to it."""
    beginning = any_beginning(draw, program)
    point = draw.randint(0, len(program[beginning[0]]))
    mask = draw.randint(beginning[1], program.levels)
    return (beginning, point, draw.randint(0, program.levels), any_store(draw, program), mask)


def all_stores(program):
    """All stores of the program."""
    stores = [()]
    for many in [program.size] * len(program.cells()) + [2] * len(program.sections()):
        stores = [store + (value,) for store in stores for value in range(many)]
    return stores


def in_order(values):
    """Some values without doubles, in the order of their texts."""
    return sorted(set(values), key=str)
