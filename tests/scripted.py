"""All scripts and words of a program, move by move; the tests hold what is told of them against these."""

from tests.walks import Traced


def scripts_of(program, moves):
    """All scripts with so many moves, in their order."""
    player, layer = Traced(program), [([], Traced(program).state())]
    for _ in range(moves):
        behind = []
        for script, state in layer:
            player.stand(state)
            for move in player.moves():
                player.stand(state)
                player.make(move)
                behind.append((script + [move], player.state()))
        layer = behind
    return [script for script, _ in layer]


def shortest_of(program, is_goal, most=4000):
    """All scripts with the fewest moves to an entry that is a goal, in their order; None if it takes too long."""
    player = Traced(program)
    layer, seen = [([], player.state())], {player.state()}
    while layer:
        goals, behind = [], []
        for script, state in layer:
            player.stand(state)
            if is_goal(player.entry()):
                goals.append(script)
                continue
            for move in player.moves():
                player.stand(state)
                player.make(move)
                behind.append((script + [move], player.state()))
        if goals:
            return goals
        if len(behind) > most:
            return None
        # What was come to with fewer moves is on no shortest way.
        layer = [(script, state) for script, state in behind if state not in seen]
        seen.update(state for _, state in layer)
    return []


class Shown:
    """The words of a program, by sets of all its states."""

    def __init__(self, program, runs):
        self.program, self.runs = program, runs
        player = Traced(program)
        self.start = self.silent({player.state()})

    def sight(self, state, move):
        """What a move shows, None if it shows nothing."""
        store, pile = state
        procedure, point, _ = pile[-1][2][-1]
        rows = self.program[procedure]
        if move[0] == "serve" or point == len(rows) or rows[point][0] != "look":
            return None
        cell = rows[point][1]
        return (cell, store[self.program.cells().index(cell)])

    def silent(self, states):
        """All states that are come to from some without a sight."""
        found, todo = set(states), list(states)
        while todo:
            state = todo.pop()
            for move, behind in self.runs.moves[state]:
                if self.sight(state, move) is None and behind not in found:
                    found.add(behind)
                    todo.append(behind)
        return frozenset(found)

    def behind(self, states):
        """A dict from the sights that can come next to the states behind them."""
        found = {}
        for state in states:
            for move, behind in self.runs.moves[state]:
                sight = self.sight(state, move)
                if sight is not None:
                    found.setdefault(sight, set()).add(behind)
        return {sight: self.silent(found[sight]) for sight in sorted(found, key=str)}

    def words(self, many):
        """All words with so many sights, with the states behind them, sight by sight."""
        layer = [([], self.start)]
        for _ in range(many):
            layer = [(word + [sight], told) for word, states in layer for sight, told in self.behind(states).items()]
        return layer


def word_of(program, script):
    """The word of a script."""
    player, word = Traced(program), []
    for move in script:
        procedure, point, _, store, _, _ = player.place()
        rows = program[procedure]
        assert move in player.moves()
        if move[0] == "row" and point < len(rows) and rows[point][0] == "look":
            word.append((rows[point][1], store[program.cells().index(rows[point][1])]))
        player.make(move)
    return word


def fewest_to_word(program, word, most=4000):
    """The fewest moves of a script with a word, None if there is none, -1 if it takes too long."""
    player = Traced(program)
    layer, seen = [(player.state(), 0)], {(player.state(), 0)}
    moves = 0
    while layer:
        if any(shown == len(word) for _, shown in layer):
            return moves
        behind = []
        for state, shown in layer:
            player.stand(state)
            for move in player.moves():
                player.stand(state)
                procedure, point, _, store, _, _ = player.place()
                rows, now = program[procedure], shown
                if move[0] == "row" and point < len(rows) and rows[point][0] == "look":
                    sight = (rows[point][1], store[program.cells().index(rows[point][1])])
                    if word[shown] != sight:
                        continue
                    now = shown + 1
                player.make(move)
                if (player.state(), now) not in seen:
                    seen.add((player.state(), now))
                    behind.append((player.state(), now))
        layer, moves = behind, moves + 1
        if len(seen) > most:
            return -1
    return None
