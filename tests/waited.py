"""All waits of a line, by all states of a program; the tests hold the answers about waits against them."""

from tests.binding import named_states
from tests.rounds import parts


def ahead_of(program, line):
    """The lines that come before a line in the order of can_serve."""
    level, _ = program.line_of(line)
    return [
        other for other in program.lines()
        if program.line_of(other)[0] > level or (program.line_of(other)[0] == level and other < line)
    ]


def bound_in(program, state):
    _, pile = state
    _, _, _, mask, frames = pile[-1]
    return max(mask, program.guard_at(*frames[-1][:2]))


def is_row(program, state, move):
    """Whether a move does a row, and is no service and no return."""
    procedure, point, _ = state[1][-1][4][-1]
    return move[0] == "row" and point < len(program[procedure])


def waiting_moves(program, states, line, state, left):
    """A tuple (rows, (state behind, what is left), move) for each move that a wait can make."""
    level, _ = program.line_of(line)
    found = []
    for move, behind in states[state]:
        if move[0] == "serve":
            if left.get(move[1], 0) > 0:
                less = {**left, move[1]: left[move[1]] - 1}
                found.append((0, (behind, tuple(sorted(less.items()))), move))
        elif bound_in(program, state) >= level:
            found.append((int(is_row(program, state, move)), (behind, tuple(sorted(left.items()))), move))
    return found


def waits_of(program, states, line, allowance):
    """The greatest number of rows of a wait of the line, None if there is none."""
    graph, full = {}, tuple(sorted(allowance.items()))
    todo = [(state, full) for state in states]
    while todo:
        node = todo.pop()
        if node not in graph:
            steps = waiting_moves(program, states, line, node[0], dict(node[1]))
            graph[node] = [(rows, behind) for rows, behind, _ in steps]
            todo.extend(behind for _, behind in graph[node])
    part, best = parts(graph), {}
    # The parts are numbered from their ends on.
    for node in sorted(graph, key=part.get):
        for rows, behind in graph[node]:
            if part[behind] == part[node] and rows:
                return None
            best[part[node]] = max(best.get(part[node], 0), rows + best.get(part[behind], 0) if part[behind] != part[node] else 0)
    return max(best.values(), default=0)


def allowances_for(draw, program, line):
    """Some allowances for a line: none, and some with numbers from 0 to 3."""
    ahead = ahead_of(program, line)
    some = draw.sample(ahead, draw.randint(0, min(2, len(ahead))))
    return [{}, {other: draw.choice([0, 1, 1, 2, 3]) for other in some}]


def waiting_programs(many, made, most=400):
    """Programs with few states, each with all of them."""
    for seed in range(many):
        program = made(seed)
        states = named_states(program, most)
        if states is not None:
            yield program, states
