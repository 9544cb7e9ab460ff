"""All states of a program with the moves between them; the tests hold rings, stretches and piles against them."""

import random

from maskedlevels.programs import Program
from tests.walks import Traced, few_program


class Runs:
    """All states to which moves lead, and all moves between them; many is None if they are too many."""

    def __init__(self, program, most=1500):
        self.program = program
        player = Traced(program)
        self.moves = {}
        todo = [player.state()]
        while todo:
            state = todo.pop()
            if state in self.moves:
                continue
            self.moves[state] = []
            player.stand(state)
            for move in player.moves():
                player.stand(state)
                player.make(move)
                self.moves[state].append((move, player.state()))
                todo.append(player.state())
            if len(self.moves) > most:
                self.moves = None
                return

    def entries(self):
        """The entries of all states."""
        found = set()
        for store, pile in self.moves:
            _, mask, frames, begun = pile[-1]
            found.add((begun[-1], *frames[-1][1:], store, mask))
        return found

    def bound(self, state):
        _, mask, frames, _ = state[1][-1]
        return max(mask, self.program.guard_at(*frames[-1][:2]))

    def is_end(self, state):
        procedure, point, _ = state[1][-1][2][-1]
        return point == len(self.program[procedure])

    def is_rest(self, state):
        return len(state[1]) == len(state[1][0][2]) == 1 and self.is_end(state)

    def floor(self, state):
        return state[1][-1][0]

    def within(self, depth, level, arrivals):
        """A dict of the moves that the activation at a depth makes, with a bound of at least a level: from
        states to lists of tuples (rows, state behind); with arrivals those of activations above it, too."""
        found = {}
        for state, moves in self.moves.items():
            if len(state[1]) < depth:
                continue
            found[state] = []
            top = len(state[1]) == depth
            if (top and self.bound(state) < level) or (not top and not arrivals):
                continue
            for move, behind in moves:
                if len(behind[1]) >= depth and (arrivals or move[0] == "row"):
                    rows = 1 if top and move[0] == "row" and not self.is_end(state) else 0
                    found[state].append((rows, behind))
        return found

    def depths(self):
        return range(1, max(len(state[1]) for state in self.moves) + 1)

    def ringed(self, level, arrivals):
        """The floors of the activations that can do rows without end, with such a bound."""
        floors = set()
        for depth in self.depths():
            graph = self.within(depth, level, arrivals)
            part = parts(graph)
            for state, steps in graph.items():
                if any(rows and part[state] == part[behind] for rows, behind in steps):
                    floors.add(self.floor(state))
        return floors

    def longest(self, level):
        """The greatest number of rows of a stretch, None if there is none."""
        most = 0
        for depth in self.depths():
            graph = self.within(depth, level, True)
            part = parts(graph)
            best = {}
            # The parts are numbered from their ends on, and nothing in one of them has a row.
            for state in sorted(graph, key=part.get):
                for rows, behind in graph[state]:
                    if part[behind] == part[state] and rows:
                        return None
                    if part[behind] != part[state]:
                        best[part[state]] = max(best.get(part[state], 0), rows + best.get(part[behind], 0))
            most = max([most, *best.values()])
        return most

    def starved(self, level):
        if any(self.is_rest(state) and self.bound(state) >= level for state in self.moves):
            return True
        return bool(self.ringed(level, False))

    def masks_left(self, procedure):
        found = set()
        for store, pile in self.moves:
            _, mask, frames, begun = pile[-1]
            name, point, _ = frames[-1]
            # The first frame of an activation is not called, but the main one counts.
            if name == procedure and point == len(self.program[name]) and (len(frames) > 1 or len(pile) == 1):
                found.add((begun[-1][3], mask))
        return sorted(found)

    def deepest(self, sizes):
        return max(
            sum(sizes.get(frame[0], 1) for _, _, frames, _ in pile for frame in frames) for _, pile in self.moves
        )


def parts(graph):
    """The number of the strongly connected part of each state, numbered from the ends on."""
    number, low, path, part, many = {}, {}, [], {}, 0
    for root in graph:
        work = []
        if root not in number:
            number[root] = low[root] = len(number)
            path.append(root)
            work.append((root, iter(graph[root])))
        while work:
            node, steps = work[-1]
            for _, behind in steps:
                if behind not in number:
                    number[behind] = low[behind] = len(number)
                    path.append(behind)
                    work.append((behind, iter(graph[behind])))
                    break
                if behind not in part:
                    low[node] = min(low[node], number[behind])
            else:
                work.pop()
                if work:
                    below = work[-1][0]
                    low[below] = min(low[below], low[node])
                if low[node] == number[node]:
                    while node not in part:
                        part[path.pop()] = many
                    many += 1
    return part


def held_row(draw, cells, size, levels, names, end):
    """A row of a sort that masks, waits or calls."""
    cell, value, level = draw.choice(cells), draw.randrange(size), draw.randrange(levels + 1)
    rows = [
        ("raise", level), ("raise", level), ("mask", level), ("mask", level), ("load", cell), ("keep",), ("give",),
        ("set", cell, value), ("add", cell, 1), ("look", cell), ("if", cell, value, draw.randrange(end + 1)),
        ("if", cell, value, draw.randrange(end + 1)), ("go", draw.randrange(end + 1)), ("either", end),
    ]
    for name in names:
        rows.extend([("call", name)] * 4)
    return draw.choice(rows)


def held_program(seed):
    """A program with few states that calls much, waits for its lines, and has many guards."""
    draw = random.Random(seed)
    levels, size, cells = draw.randint(1, 3), draw.randint(2, 3), ["c", "d"][:draw.choice([1, 1, 2])]
    names = ["main", "work", "sub", "put"]
    procedures = {}
    for at, name in enumerate(names):
        end = draw.randint(2, 5) if name == "main" else draw.randint(1, 4)
        procedures[name] = [held_row(draw, cells, size, levels, names[at + 1:], end) for _ in range(end)]
    lines = {line: (draw.randint(1, levels), draw.choice(names[1:])) for line in "tu"[:draw.randint(1, 2)]}
    guards = {}
    for _ in range(draw.randint(0, 8)):
        name = draw.choice(names)
        guards[(name, draw.randint(0, len(procedures[name])))] = draw.randint(1, levels)
    return Program(levels, size, {cell: 0 for cell in cells}, procedures, lines, guards=guards)


def run_programs(many, made=few_program, most=1500):
    """Programs with few states, each with all of them."""
    for seed in range(many):
        program = made(seed)
        runs = Runs(program, most)
        if runs.moves is not None:
            yield program, runs


def waiting_row(draw, size, names, end):
    """A row that waits for a cell that lines change."""
    value, point = draw.randrange(size), draw.randrange(end + 1)
    rows = [("if", "c", value, point)] * 5 + [("go", point), ("look", "c"), ("set", "c", value), ("raise", 1), ("mask", 0)]
    rows.extend([("call", name) for name in names])
    return draw.choice(rows)


def waiting_program(seed):
    """A program whose rows go round only while lines change its cell."""
    draw = random.Random(seed)
    size, names = draw.randint(2, 3), ["main", "work", "sub"]
    procedures = {"put": [("add", "c", 1)], "take": [("if", "c", 0, 2), ("set", "c", 0)]}
    for at, name in enumerate(names):
        end = draw.randint(2, 5)
        procedures[name] = [waiting_row(draw, size, names[at + 1:], end) for _ in range(end)]
    lines = {"t": (draw.randint(1, 2), draw.choice(["put", "sub"])), "u": (2, draw.choice(["put", "take"]))}
    guards = {("main", draw.randrange(3)): draw.randint(1, 2), ("work", draw.randrange(3)): 1}
    return Program(2, size, {"c": 0}, procedures, lines, guards=guards)


def state_behind(program, script):
    """The state behind a script, with how each frame began."""
    player = Traced(program)
    for move in script:
        if move not in player.moves():
            raise AssertionError(f"{move} cannot be made")
        player.make(move)
    return player.state()


def bare(state):
    """A state without how its frames began."""
    store, pile = state
    return (store, tuple(part[:3] for part in pile))


class Rings:
    """Holds pairs of a script and a ring against a player; mixed into tests."""

    def holds_ring(self, program, script, ring, level, arrivals):
        """Plays a ring with a row of the activation in it, over a bound of at least a level; returns its floor."""
        player = Traced(program)
        player.stand(state_behind(program, script))
        before = player.state()
        depth, rows = len(before[1]), 0
        self.assertIs(type(ring), list)
        for move in ring:
            state = player.state()
            _, mask, frames, _ = state[1][-1]
            procedure, point, _ = frames[-1]
            if len(state[1]) == depth:
                self.assertGreaterEqual(max(mask, program.guard_at(procedure, point)), level)
                rows += move[0] == "row" and point < len(program[procedure])
            self.assertTrue(arrivals or move[0] == "row")
            self.assertIn(move, player.moves())
            player.make(move)
            self.assertGreaterEqual(len(player.state()[1]), depth)
        self.assertEqual(bare(player.state()), bare(before))
        self.assertGreater(rows, 0)
        return before[1][-1][0]
