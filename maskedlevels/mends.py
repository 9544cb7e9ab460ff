"""Wishes for programs, and the guards of a menu that make a program meet them."""

from maskedlevels.claims import is_claim
from maskedlevels.claims import those_against
from maskedlevels.errors import BadChange
from maskedlevels.errors import BadGuards
from maskedlevels.errors import BadWish
from maskedlevels.flows import flow_of
from maskedlevels.frames import is_line
from maskedlevels.frames import is_point
from maskedlevels.piles import deepest_in
from maskedlevels.programs import check_program
from maskedlevels.programs import is_within
from maskedlevels.starving import is_shut
from maskedlevels.starving import starved
from maskedlevels.steps import greater
from maskedlevels.stretches import longest_in

MOST_GUARDS = 6
MOST_WISHES = 8


def is_many(value):
    """Whether any value is an integer that is not below 0."""
    return type(value) is int and value >= 0


def is_wish(program, value):
    """Whether any value is a wish about things of the program."""
    if is_claim(program, value):
        return True
    if type(value) is not tuple or len(value) not in (2, 3) or type(value[0]) is not str:
        return False
    kind, *parts = value
    if kind == "short":
        return len(parts) == 2 and is_within(parts[0], 1, program.levels) and is_many(parts[1])
    if len(parts) != 1:
        return False
    if kind == "served":
        return is_line(program, parts[0])
    return kind == "shallow" and is_many(parts[0])


def meets(program, flow, wish):
    """Whether a program meets a wish, by the flow of all runs."""
    kind, *parts = wish
    if kind == "served":
        level, _ = program.line_of(parts[0])
        return not is_shut(program, flow, level)
    if kind == "short":
        rows = longest_in(program, flow, parts[0])
        return rows is not None and rows <= parts[1]
    if kind == "shallow":
        return deepest_in(flow, {}) <= parts[0]
    return not those_against(program, wish, flow.entries())


def is_met(program, wish):
    """Whether a program meets a wish."""
    check_program(program)
    if not is_wish(program, wish):
        raise BadWish(wish)
    return meets(program, flow_of(program), wish)


def is_guard(program, value):
    """Whether any value is a tuple (procedure, point, level) that could be a guard."""
    if type(value) is not tuple or len(value) != 3 or value[0] not in program:
        return False
    return is_point(program, value[0], value[1]) and is_within(value[2], 1, program.levels)


def is_menu(program, value):
    """Whether any value is a menu: a list of not too many guards."""
    if type(value) is not list or len(value) > MOST_GUARDS:
        return False
    return all([is_guard(program, guard) for guard in value])


def are_wishes(program, value):
    """Whether any value is a list of not too many wishes."""
    if type(value) is not list or len(value) > MOST_WISHES:
        return False
    return all([is_wish(program, wish) for wish in value])


def is_choice(many, value):
    """Whether any value is a tuple of ascending indexes of so many things."""
    if type(value) is not tuple or not all([is_within(index, 0, many - 1) for index in value]):
        return False
    return all([one < other for one, other in zip(value, value[1:])])


def all_choices(many):
    """All choices of so many things, by size and then ascending."""
    found = [()]
    layer = [()]
    while layer:
        layer = [(*choice, index) for choice in layer for index in range(many) if not choice or index > choice[-1]]
        found.extend(layer)
    return found


def has_part(choice, parts):
    """Whether a choice has all indexes of one of some others."""
    return any([all([index in choice for index in part]) for part in parts])


class Mend:
    """A program with a menu of guards and with wishes; it never changes."""

    def __init__(self, program, menu, wishes):
        check_program(program)
        if not is_menu(program, menu):
            raise BadGuards(menu)
        if not are_wishes(program, wishes):
            raise BadWish(wishes)
        self._program = program
        self._menu = list(menu)
        self._wishes = list(wishes)

    def behind(self, choice):
        """The program with the guards of a choice on top of those that there are."""
        if not is_choice(len(self._menu), choice):
            raise BadChange(choice)
        guards = self._program.guards()
        for index in choice:
            procedure, point, level = self._menu[index]
            guards[(procedure, point)] = greater(level, guards.get((procedure, point), 0))
        return self._program.with_guards(guards)

    def unmet(self, choice):
        """The indexes of the wishes that a choice does not meet."""
        program = self.behind(choice)
        flow = flow_of(program)
        return [index for index, wish in enumerate(self._wishes) if not meets(program, flow, wish)]

    def mending(self):
        """Yields all choices that mend, by size and then ascending."""
        without = starved(self._program)
        for choice in all_choices(len(self._menu)):
            if self._is_mending(choice, without):
                yield choice

    def least(self):
        """The choices that mend, and of which no smaller part does."""
        without = starved(self._program)
        found = []
        for choice in all_choices(len(self._menu)):
            # Where a part mends, a least one of its parts was found before.
            if not has_part(choice, found) and self._is_mending(choice, without):
                found.append(choice)
        return found

    def _is_mending(self, choice, without):
        """Whether a choice mends a program in which these lines are starved without it."""
        program = self.behind(choice)
        flow = flow_of(program)
        # Most choices are refused, so nothing is worked out behind the first wish that is not met.
        for wish in self._wishes:
            if not meets(program, flow, wish):
                return False
        levels = {program.line_of(line)[0]: True for line in program.lines() if line not in without}
        return not any([is_shut(program, flow, level) for level in levels])

    def __len__(self):
        return len(self._menu)
