"""All scripts with so many moves: how many they are, and the number of each."""

from maskedlevels.errors import BadNumber
from maskedlevels.errors import BadScript
from maskedlevels.errors import TooMany
from maskedlevels.machine import is_move
from maskedlevels.programs import check_program
from maskedlevels.programs import is_within
from maskedlevels.states import space_of

MOST_STATES = 20000
MOST_MOVES = 1000
MOST_COUNTS = 200000


def counted_space(program):
    """All states with their steps, TooMany if they are more than can be counted."""
    space = space_of(program, MOST_STATES)
    if space is None:
        raise TooMany(MOST_STATES + 1)
    return space


def many_states(program):
    """How many states can be come to."""
    check_program(program)
    return len(counted_space(program))


def seated_steps(space):
    """The steps of all states as a list of lists of tuples (move, index of the state behind)."""
    seats = {state: seat for seat, state in enumerate(space)}
    return [[(move, seats[behind]) for move, behind in steps] for steps in space.values()]


def counts_of(steps, moves):
    """For each number of moves up to some, how many scripts of them there are from each state on."""
    counts = [[1] * len(steps)]
    for _ in range(moves):
        last = counts[-1]
        counts.append([sum([last[behind] for _, behind in row]) for row in steps])
    return counts


class Scripts:
    """All scripts of a program with so many moves, in the order of their moves; they never change."""

    def __init__(self, program, moves):
        check_program(program)
        if not is_within(moves, 0, MOST_MOVES):
            raise BadNumber(moves)
        space = counted_space(program)
        if len(space) * moves > MOST_COUNTS:
            raise TooMany(len(space) * moves)
        # The first state has the index 0.
        self._steps = seated_steps(space)
        self._counts = counts_of(self._steps, moves)
        self._length = moves

    @property
    def length(self):
        return self._length

    @property
    def amount(self):
        return self._counts[self._length][0]

    def __getitem__(self, number):
        """The script with a number."""
        if not is_within(number, 0, self._counts[self._length][0] - 1):
            raise BadNumber(number)
        script = []
        seat = 0
        rest = number
        for at in range(self._length):
            move, seat, rest = self._step_to(seat, self._length - at - 1, rest)
            script.append(move)
        return script

    def __iter__(self):
        raise TypeError("scripts are not iterated over: each() tells all of them")

    def __contains__(self, script):
        wrong, _ = self._checked(script)
        return wrong is None

    def number_of(self, script):
        """The number of a script."""
        wrong, number = self._checked(script)
        if wrong is not None:
            raise BadScript(wrong)
        return number

    def each(self):
        """Yields all scripts, in order."""
        script = []
        todo = [(0, 0, None)]
        while todo:
            depth, seat, move = todo.pop()
            if depth > 0:
                del script[depth - 1:]
                script.append(move)
            if depth == self._length:
                yield list(script)
            else:
                todo.extend([(depth + 1, behind, step) for step, behind in self._lasting(seat, depth)[::-1]])

    def _lasting(self, seat, depth):
        """The steps from a state on, behind so many moves, that scripts have."""
        counts = self._counts[self._length - depth - 1]
        return [step for step in self._steps[seat] if counts[step[1]] > 0]

    def _step_to(self, seat, left, number):
        """The step of the script with a number from a state on: (move, state behind, number there)."""
        rest = number
        for move, behind in self._steps[seat]:
            many = self._counts[left][behind]
            if rest < many:
                return (move, behind, rest)
            rest = rest - many
        return None

    def _step_by(self, seat, left, move):
        """The step with a move from a state on: (state behind, how many scripts are ahead); None if there is none."""
        if not is_move(move):
            return None
        ahead = 0
        for other, behind in self._steps[seat]:
            if other == move:
                return (behind, ahead)
            ahead = ahead + self._counts[left][behind]
        return None

    def _checked(self, script):
        """A tuple of the number of the first wrong move of any value, None for a script, and the script's number."""
        if type(script) is not list:
            return (0, None)
        seat = 0
        number = 0
        for at, move in enumerate(script):
            # One move too many is wrong, whatever it is.
            step = None if at == self._length else self._step_by(seat, self._length - at - 1, move)
            if step is None:
                return (at, None)
            seat, ahead = step
            number = number + ahead
        if len(script) < self._length:
            return (len(script), None)
        return (None, number)
