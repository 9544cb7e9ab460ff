"""A player that keeps what each activation saw of a pair of cells; the tests hold sights against it."""

from tests.walks import Traced


def seats_of(program, one, other):
    names = program.cells()
    return names.index(one), names.index(other)


def watched(program, watch, state, seats):
    """A watch with what is so in a state."""
    one, other = seats
    if watch is None or state[0][one] != watch[2]:
        return watch
    return watch[:3] + (watch[3] | {state[0][other]},)


def behind_look(program, state, move, watch, cells, seats):
    """The watch behind a move of the topmost activation, and the sight that it makes or None."""
    store, pile = state
    procedure, point, _ = pile[-1][2][-1]
    rows = program[procedure]
    if move[0] == "row" and point < len(rows) and rows[point] == ("look", cells[0]):
        return (procedure, point, store[seats[0]], frozenset()), None
    if move[0] == "row" and point < len(rows) and rows[point] == ("look", cells[1]) and watch is not None:
        value = store[seats[1]]
        return None, (*watch[:3], procedure, point, value, value not in watch[3])
    return watch, None


def sights_of(program, one, other, most=4000):
    """A dict from all sights of a pair to the fewest moves up to their second look; None if it takes too long."""
    cells, seats, player = (one, other), seats_of(program, one, other), Traced(program)
    start = (player.state(), (None,))
    found, todo, sights = {start: 0}, [start], {}
    for state, watches in todo:
        player.stand(state)
        for move in player.moves():
            player.stand(state)
            player.make(move)
            behind = player.state()
            top, sight = behind_look(program, state, move, watches[-1], cells, seats)
            below = (watches[:-1] + (top,) + (None,))[:len(behind[1])]
            both = (behind, tuple(watched(program, watch, behind, seats) for watch in below))
            if sight is not None:
                sights.setdefault(sight, found[(state, watches)] + 1)
            if both not in found:
                found[both] = found[(state, watches)] + 1
                todo.append(both)
        if len(found) > most:
            return None
    return sights
