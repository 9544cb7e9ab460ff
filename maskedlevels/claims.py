"""Claims about programs: whether they hold, what shows them, and what is against them."""

from maskedlevels.errors import BadArgument
from maskedlevels.flows import flow_of
from maskedlevels.frames import is_meeting
from maskedlevels.frames import is_place
from maskedlevels.frames import is_point
from maskedlevels.frames import look_at
from maskedlevels.frames import place_at
from maskedlevels.frames import row_of
from maskedlevels.programs import check_program
from maskedlevels.programs import is_within
from maskedlevels.reached import is_section
from maskedlevels.tables import is_table
from maskedlevels.ways import script_to_any

# How many things a claim of each sort is about.
CLAIM_PARTS = {"never": 1, "unseen": 3, "apart": 1, "clean": 1, "bound": 2}


def is_sight(program, procedure, point, value):
    """Whether any values are a look of the program and a value that it might have."""
    if procedure not in program or not is_point(program, procedure, point):
        return False
    return look_at(program, procedure, point) is not None and is_within(value, 0, program.size - 1)


def is_claim(program, value):
    """Whether any value is a claim about things of the program."""
    if type(value) is not tuple or len(value) == 0 or type(value[0]) is not str:
        return False
    kind, *parts = value
    if kind not in CLAIM_PARTS or len(parts) != CLAIM_PARTS[kind]:
        return False
    if kind == "never":
        return is_place(program, parts[0])
    if kind == "unseen":
        return is_sight(program, parts[0], parts[1], parts[2])
    if kind == "apart":
        return is_section(program, parts[0])
    if kind == "clean":
        return parts[0] in program
    return parts[0] in program and is_within(parts[1], 0, program.levels)


def check_claim(program, claim):
    """Raises BadArgument for any value that is no claim about things of the program."""
    if not is_claim(program, claim):
        raise BadArgument(claim)


def is_against(program, claim, entry):
    """Whether an entry is against a claim."""
    kind, *parts = claim
    if kind == "never":
        return place_at(entry) == parts[0]
    if kind == "apart":
        return is_meeting(program, entry, parts[0])
    procedure = entry[0][0]
    if procedure != parts[0]:
        return False
    if kind == "clean":
        return row_of(program, entry) is None and entry[4] != entry[0][3]
    if kind == "bound":
        return entry[4] > parts[1]
    point, value = parts[1:]
    return entry[1] == point and entry[3][program.seat_of(look_at(program, procedure, point))] == value


def those_against(program, claim, entries):
    """The entries among some that are against a claim."""
    return [entry for entry in entries if is_against(program, claim, entry)]


def holds(program, claim):
    """Whether a claim is so for all arrivals."""
    check_program(program)
    check_claim(program, claim)
    return not those_against(program, claim, flow_of(program).entries())


def is_shown(program, value, claim):
    """Whether any value is a closed table in which no entry is against a claim."""
    check_program(program)
    check_claim(program, claim)
    return is_table(program, value) and not those_against(program, claim, value)


def against(program, claim):
    """A script with the fewest moves to a place that is against a claim, None if it holds."""
    check_program(program)
    check_claim(program, claim)
    flow = flow_of(program)
    return script_to_any(flow, those_against(program, claim, flow.entries()))
