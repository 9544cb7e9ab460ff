"""Machines that play runs move by move, and boards in which lines wait."""

from maskedlevels.errors import AtRest
from maskedlevels.errors import BadMove
from maskedlevels.errors import BadNumber
from maskedlevels.errors import BadScript
from maskedlevels.programs import check_program
from maskedlevels.programs import is_word
from maskedlevels.states import behind_move
from maskedlevels.states import choices_in
from maskedlevels.states import first_state
from maskedlevels.states import frames_of
from maskedlevels.states import is_resting
from maskedlevels.states import lines_in
from maskedlevels.states import moves_in
from maskedlevels.states import place_of


def is_move(value):
    """Whether any value has the form of a move."""
    if type(value) is not tuple or len(value) != 2:
        return False
    kind, what = value
    # A value that is no text might answer to == in ways of its own.
    if type(kind) is not str:
        return False
    if kind == "serve":
        return is_word(what)
    return kind == "row" and type(what) is int


def behind_value(program, state, value):
    """The state behind any value as a move; None if it is none that can be made."""
    if not is_move(value):
        return None
    return behind_move(program, state, value)


class Machine:
    """A program in a run: at its start, and then behind each move that is made."""

    def __init__(self, program):
        check_program(program)
        self._program = program
        self._state = first_state(program)

    @property
    def program(self):
        return self._program

    @property
    def store(self):
        return place_of(self._state)[3]

    @property
    def mask(self):
        return place_of(self._state)[4]

    def place(self):
        """The place: (procedure, point, kept, store, mask, floor)."""
        return place_of(self._state)

    def frames(self):
        """The frames of all activations, the lowest first."""
        return frames_of(self._state)

    def at_rest(self):
        """Whether the main procedure has ended and no line is being served."""
        return is_resting(self._program, self._state)

    def moves(self):
        """All moves that can be made: lines as can_serve tells them, then rows by their choices."""
        return moves_in(self._program, self._state)

    def __call__(self, move):
        behind = behind_value(self._program, self._state, move)
        if behind is None:
            raise BadMove(move)
        self._state = behind

    def copied(self):
        """A plain machine that stands where this one does and goes on by itself."""
        other = Machine(self._program)
        other._state = self._state
        return other

    def play(self, script):
        """Makes all moves of a script, or none."""
        if type(script) is not list:
            raise BadScript(0)
        state = self._state
        for at, move in enumerate(script):
            state = behind_value(self._program, state, move)
            if state is None:
                raise BadScript(at)
        self._state = state


def played(program, script):
    """A machine that has played a script from the start on."""
    machine = Machine(program)
    machine.play(script)
    return machine


def places_of(program, script):
    """Yields the places of a run: the first one, and the one behind each move."""
    check_program(program)
    if type(script) is not list:
        raise BadScript(0)
    # Who asks for the places may change the script between two of them.
    moves = list(script)
    state = first_state(program)
    yield place_of(state)
    for at, move in enumerate(moves):
        state = behind_value(program, state, move)
        if state is None:
            raise BadScript(at)
        yield place_of(state)


class Board(Machine):
    """A machine in which lines wait until they can be served."""

    def __init__(self, program):
        super().__init__(program)
        self._waiting = []
        self._stepped = []

    def arrive(self, line):
        """The line waits from now on."""
        self._program.line_of(line)
        if line not in self._waiting:
            self._waiting.append(line)

    def pending(self):
        """The lines that wait, ascending."""
        return sorted(self._waiting, key=str)

    def step(self, choice=0):
        """Serves the first line that waits and can be served, or does the next row; returns the move."""
        if type(choice) is not int:
            raise BadNumber(choice)
        ready = [line for line in lines_in(self._program, self._state) if line in self._waiting]
        if ready:
            move = ("serve", ready[0])
            self._waiting.remove(ready[0])
        else:
            move = self._row_move(choice)
        self._state = behind_move(self._program, self._state, move)
        self._stepped.append(move)
        return move

    def _row_move(self, choice):
        """The row move with this choice, if it can be made."""
        if is_resting(self._program, self._state):
            raise AtRest()
        if choice not in choices_in(self._program, self._state):
            raise BadNumber(choice)
        return ("row", choice)

    def script(self):
        """The moves that were made by step."""
        return list(self._stepped)
