"""The words of all runs, read sight by sight by all states to which they may have come."""

from maskedlevels.frames import look_at
from maskedlevels.graphs import rings_of
from maskedlevels.states import place_of
from maskedlevels.states import space_of
from maskedlevels.texts import in_text_order


def sight_in(program, state):
    """The sight that the row at a state shows, None if it shows none."""
    procedure, point, _, store, _, _ = place_of(state)
    cell = look_at(program, procedure, point)
    return None if cell is None else (cell, store[program.seat_of(cell)])


def looks_in(program, space):
    """A dict from the states at a look to tuples (sight, state behind)."""
    found = {}
    for state, steps in space.items():
        sight = sight_in(program, state)
        # The look itself is the last of the moves that can be made there.
        if sight is not None:
            found[state] = (sight, steps[-1][1])
    return found


def silent_steps(space, looks):
    """The graph of all moves that show nothing."""
    graph = {}
    for state, steps in space.items():
        graph[state] = [(0, behind) for move, behind in steps if move[0] == "serve" or state not in looks]
    return graph


def join_sights(found, told):
    """Puts the numbers that are told of sights to those that were found."""
    for sight, bits in told.items():
        found[sight] = found.get(sight, 0) | bits


def sights_of(silent, looks, seats):
    """A dict from all states to what they can show next: dicts from sights to the states behind, as a number."""
    told = {}
    # What moves without a sight lead to is worked out ahead of it.
    for ring in rings_of(silent)[::-1]:
        found = {}
        for state in ring:
            if state in looks:
                sight, behind = looks[state]
                join_sights(found, {sight: 1 << seats[behind]})
            for _, behind in silent[state]:
                join_sights(found, told.get(behind, {}))
        for state in ring:
            told[state] = found
    return told


class Words:
    """The words of all runs of a program.

    Where runs with a word may be is told as a number, in which each state behind a look,
    and the first state, has a bit of its own.
    """

    def __init__(self, program):
        space = space_of(program, None)
        looks = looks_in(program, space)
        begun = list(space)[:1]
        behind = [left for _, left in looks.values()]
        # No state has two seats.
        nodes = list({state: True for state in begun + behind})
        seats = {state: seat for seat, state in enumerate(nodes)}
        told = sights_of(silent_steps(space, looks), looks, seats)
        self._sights = [told[state] for state in nodes]
        self._known = {}

    def first(self):
        """Where runs may be that have shown nothing."""
        return 1

    def shown(self, bits):
        """A dict from the sights that can come next to where runs may be behind them, in the order of texts."""
        if bits not in self._known:
            found = {}
            rest = bits
            while rest > 0:
                join_sights(found, self._sights[(rest & -rest).bit_length() - 1])
                rest = rest & (rest - 1)
            self._known[bits] = {sight: found[sight] for sight in in_text_order(found)}
        return self._known[bits]
