"""Machines that hold claims: no move is made that would break one of them."""

from maskedlevels.claims import is_against
from maskedlevels.claims import is_claim
from maskedlevels.errors import BadArgument
from maskedlevels.errors import BadMove
from maskedlevels.errors import BadScript
from maskedlevels.errors import Broken
from maskedlevels.frames import entry_at
from maskedlevels.machine import Machine
from maskedlevels.machine import behind_value
from maskedlevels.states import place_of
from maskedlevels.states import steps_from


def is_held(program, value):
    """Whether any value is a claim about places of the program."""
    return is_claim(program, value) and value[0] != "clean"


def first_broken(program, claims, state):
    """The first one of some held claims that a state breaks, None if there is none."""
    entry = entry_at(place_of(state))
    for claim in claims:
        if is_against(program, claim, entry):
            return claim
    return None


def check_state(program, claims, state):
    """Raises Broken with the first claim that a state breaks."""
    claim = first_broken(program, claims, state)
    if claim is not None:
        raise Broken(claim)


class Guarded(Machine):
    """A machine that holds claims about its places."""

    def __init__(self, program, *claims):
        super().__init__(program)
        for claim in claims:
            if not is_held(program, claim):
                raise BadArgument(claim)
        check_state(program, claims, self._state)
        self._held = list(claims)

    def claims(self):
        """The claims, as they were given."""
        return list(self._held)

    def __call__(self, move):
        behind = behind_value(self._program, self._state, move)
        if behind is None:
            raise BadMove(move)
        check_state(self._program, self._held, behind)
        self._state = behind

    def held_moves(self):
        """All moves that can be made and break no claim, in the order of moves."""
        steps = steps_from(self._program, self._state)
        return [move for move, behind in steps if first_broken(self._program, self._held, behind) is None]

    def play(self, script):
        """Makes all moves of a script, or none."""
        if type(script) is not list:
            raise BadScript(0)
        state = self._state
        for at, move in enumerate(script):
            state = behind_value(self._program, state, move)
            if state is None:
                raise BadScript(at)
            check_state(self._program, self._held, state)
        self._state = state
