"""A player that knows what its activations serve, all pages of its states, and the rules of books word by word."""

from maskedlevels.programs import Program
from tests.plain import Plain


class Named(Plain):
    """A plain player that keeps beside each activation its name and the store with which it began."""

    def __init__(self, program):
        super().__init__(program)
        self.names = program.cells() + program.sections()
        self.pile[0].update(name=None, first=self.store())

    def store(self):
        return tuple(self.cells[name] for name in self.names)

    def make(self, move):
        super().make(move)
        if move[0] == "serve":
            self.pile[-1].update(name=move[1], first=self.store())

    def page(self):
        """The page of the topmost activation."""
        top = self.pile[-1]
        return (top["name"], top["first"], tuple(map(tuple, top["frames"])), self.store(), top["mask"])

    def state(self):
        pile = tuple(
            (part["name"], part["first"], part["floor"], part["mask"], tuple(map(tuple, part["frames"]))) for part in self.pile
        )
        return (self.store(), pile)

    def stand(self, state):
        store, pile = state
        self.cells = dict(zip(self.names, store))
        self.pile = [
            {"name": name, "first": first, "floor": floor, "mask": mask, "frames": [list(frame) for frame in frames]}
            for name, first, floor, mask, frames in pile
        ]


def named_states(program, most=1500):
    """A dict from all states to lists of (move, state behind), None if they are more than most."""
    player, found = Named(program), {}
    todo = [player.state()]
    while todo:
        state = todo.pop()
        if state in found:
            continue
        found[state] = []
        player.stand(state)
        for move in player.moves():
            player.stand(state)
            player.make(move)
            found[state].append((move, player.state()))
            todo.append(player.state())
        if len(found) > most:
            return None
    return found


def named_behind(program, script):
    """The state behind a script."""
    player = Named(program)
    for move in script:
        player.make(move)
    return player.state()


def page_of(state):
    """The page of the topmost activation of a state."""
    store, pile = state
    name, first, _, mask, frames = pile[-1]
    return (name, first, frames, store, mask)


def pages_in(states):
    """The pages of all states."""
    return {page_of(state) for state in states}


def floor_of(program, name):
    return 0 if name is None else program.line_of(name)[0]


def procedure_of(program, name):
    return program.main if name is None else program.line_of(name)[1]


def begun_page(program, name, store):
    return (name, store, ((procedure_of(program, name), 0, 0),), store, floor_of(program, name))


def bound_at(program, page):
    procedure, point, _ = page[2][-1]
    return max(page[4], program.guard_at(procedure, point))


def servable(program, page):
    return [line for line in program.lines() if program.line_of(line)[0] > bound_at(program, page)]


def is_row(program, page):
    procedure, point, _ = page[2][-1]
    return point < len(program[procedure])


def is_over(program, page):
    return len(page[2]) == 1 and not is_row(program, page)


def led_to(program, page):
    """The pages to which a row or a return leads."""
    name, first, frames, store, mask = page
    if is_over(program, page):
        return set()
    player, found = Named(program), set()
    state = (store, ((name, first, floor_of(program, name), mask, frames),))
    player.stand(state)
    for kind, choice in player.moves():
        if kind == "row":
            player.stand(state)
            player.make((kind, choice))
            found.add(player.page())
    return found


def ends_in(program, pages):
    """The tuples (line, first, left) of pages at the end of the activations of lines."""
    return {(page[0], page[1], page[3]) for page in pages if page[0] is not None and is_over(program, page)}


def lefts(program, page, ends):
    """The pages behind services at a page, with these ends."""
    name, first, frames, store, mask = page
    lines = servable(program, page)
    return {(name, first, frames, left, mask) for line, begun, left in ends if line in lines and begun == store}


def asked(program, pages, names=None, granted=()):
    """All that the rules ask for, for pages of the activations of these names (all of them)."""
    names = [None, *program.lines()] if names is None else names
    wanted = {begun_page(program, None, program.first_store())} if None in names else set()
    ends = ends_in(program, pages) | set(granted)
    for page in pages:
        wanted |= led_to(program, page) | lefts(program, page, ends)
        wanted |= {begun_page(program, line, page[3]) for line in servable(program, page) if line in names}
    return wanted


def book_with(program, pages=(), names=None, granted=()):
    """The least closed set of pages that has all of some pages."""
    found = set(pages)
    while not asked(program, found, names, granted) <= found:
        found |= asked(program, found, names, granted)
    return found


def any_page(draw, program, store):
    """A page of the program, whether or not a run comes to it; a function draws its stores."""
    name = draw.choice([None, *program.lines()])
    frames = [(procedure_of(program, name), None)]
    while draw.random() < 0.4:
        frames.append((draw.choice(program.procedures()), None))
    frames = tuple((name, draw.randint(0, len(program[name])), draw.randint(0, program.levels)) for name, _ in frames)
    mask = draw.randint(floor_of(program, name), program.levels)
    return (name, store(draw, program), frames, store(draw, program), mask)


def tiny_program(draw):
    """A program with one cell of two values and short procedures."""
    rows = [("set", "c", 1), ("add", "c", 1), ("look", "c"), ("raise", 1), ("mask", 0), ("if", "c", 0, 0), ("keep",), ("give",)]
    procedures = {"main": [draw.choice(rows + [("call", "sub")]) for _ in range(draw.randint(0, 3))]}
    procedures["sub"] = [draw.choice(rows) for _ in range(draw.randint(0, 2))]
    procedures = {name: [row if row[0] != "if" else (*row[:3], draw.randint(0, len(part))) for row in part] for name, part in procedures.items()}
    lines = {line: (draw.randint(1, 2), "sub") for line in "tu"[:draw.randint(0, 2)]}
    return Program(2, 2, {"c": draw.randrange(2)}, procedures, lines)
