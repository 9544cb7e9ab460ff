"""All scripts with the fewest moves to places that are against a claim."""

from maskedlevels.aims import Aim
from maskedlevels.claims import is_claim
from maskedlevels.claims import those_against
from maskedlevels.errors import BadWish
from maskedlevels.flows import flow_of
from maskedlevels.programs import check_program


def aim_at(program, claim):
    """The aim at all that is against a claim, with the errors of what is no claim about a program."""
    check_program(program)
    if not is_claim(program, claim):
        raise BadWish(claim)
    flow = flow_of(program)
    return Aim(program, flow, those_against(program, claim, flow.entries()))


def shortest_scripts(program, claim):
    """Yields all scripts with the fewest moves to a place that is against a claim, in the order of their moves."""
    aim = aim_at(program, claim)
    far = aim.left(aim.first())
    todo = [] if far is None else [([], aim.first())]
    while todo:
        script, pile = todo.pop()
        if len(script) == far:
            yield script
        else:
            longer = [([*script, move], behind) for move, behind in aim.nearer(pile)]
            todo.extend(longer[::-1])


def how_many_shortest(program, claim):
    """How many scripts there are with the fewest moves to a place that is against a claim."""
    aim = aim_at(program, claim)
    far = aim.left(aim.first())
    if far is None:
        return 0
    counts = {aim.first(): 1}
    for _ in range(far):
        reached = {}
        for pile, many in counts.items():
            for _, behind in aim.nearer(pile):
                reached[behind] = reached.get(behind, 0) + many
        counts = reached
    return sum(counts.values())


def fewest_moves(program, claim):
    """How many moves the shortest scripts have that lead to a place against a claim, None if it holds."""
    aim = aim_at(program, claim)
    return aim.left(aim.first())
