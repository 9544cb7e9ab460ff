"""The deepest piles of frames."""

from maskedlevels.errors import BadNumber
from maskedlevels.flows import flow_of
from maskedlevels.programs import check_program
from maskedlevels.programs import is_within

GREATEST_SIZE = 1000


def are_sizes(program, value):
    """Whether any value gives sizes to procedures of the program."""
    if type(value) is not dict:
        return False
    return all([procedure in program and is_within(size, 0, GREATEST_SIZE) for procedure, size in value.items()])


def check_sizes(program, sizes):
    """Raises BadArgument for what is no program, BadNumber for what gives no sizes to its procedures."""
    check_program(program)
    if sizes is not None and not are_sizes(program, sizes):
        raise BadNumber(sizes)


def pile_above(beginning, starts, sizes, known):
    """The greatest pile from a frame with a beginning on: a tuple (size, entry, move, beginning of the next).

    Entry, move and beginning tell how the next frame begins; they are None if there is
    none. What is worked out is kept in known, by the beginnings.
    """
    if beginning not in known:
        best = (0, None, None, None)
        for entry, move, begun in starts.get(beginning, []):
            above = pile_above(begun, starts, sizes, known)[0]
            if above > best[0]:
                best = (above, entry, move, begun)
        known[beginning] = (best[0] + sizes.get(beginning[0], 1), *best[1:])
    return known[beginning]


def piles_in(flow, sizes):
    """The greatest piles of a flow of all runs, by the beginnings of their lowest frames."""
    starts = {}
    for entry, move, begun in flow.begun():
        starts.setdefault(entry[0], []).append((entry, move, begun))
    known = {}
    pile_above(flow.root(), starts, sizes, known)
    return known


def deepest_in(flow, sizes):
    """The greatest sum of sizes of the frames of a pile, by the flow of all runs."""
    return piles_in(flow, sizes)[flow.root()][0]


def deepest(program, sizes=None):
    """The greatest sum of the sizes of the frames of a pile that some run has."""
    check_sizes(program, sizes)
    return deepest_in(flow_of(program), {} if sizes is None else sizes)


def pile_script(program, sizes=None):
    """A pair (script, procedures of the frames) of a pile with the greatest sum of sizes."""
    check_sizes(program, sizes)
    flow = flow_of(program)
    piles = piles_in(flow, {} if sizes is None else sizes)
    script = []
    words = [program.main]
    _, entry, move, begun = piles[flow.root()]
    while begun is not None:
        script.extend([*flow.moves_to(entry), move])
        words.append(begun[0])
        _, entry, move, begun = piles[begun]
    return (script, words)
