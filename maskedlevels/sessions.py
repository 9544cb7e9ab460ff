"""Sessions keep a program whose guards can be changed; attempts take changes back."""

from maskedlevels.errors import BadNumber
from maskedlevels.errors import NothingLeft
from maskedlevels.frames import check_point
from maskedlevels.programs import check_program
from maskedlevels.programs import is_within


class Session:
    """A program as it is now, and as it was ahead of each change that can be undone."""

    def __init__(self, program):
        check_program(program)
        self._now = program
        self._past = []

    def guarded(self):
        """The program as it is now."""
        return self._now

    def guard(self, procedure, point, level):
        """Sets the guard of a point, or takes it away if the level is 0."""
        check_point(self._now, procedure, point)
        if not is_within(level, 0, self._now.levels):
            raise BadNumber(level)
        guards = self._now.guards()
        guards.pop((procedure, point), None)
        if level > 0:
            guards[(procedure, point)] = level
        changed = self._now.with_guards(guards)
        self._past.append(self._now)
        self._now = changed

    def undo(self):
        """Takes the last change back that was not undone."""
        if not self._past:
            raise NothingLeft()
        self._now = self._past.pop()

    def __len__(self):
        return len(self._past)


class Attempt:
    """A block of changes of a session, taken back behind it unless they are held fast."""

    def __init__(self, session):
        self._session = session
        self._held = None
        self._now = None
        self._past = None

    def __enter__(self):
        self._held = None
        self._now = self._session._now
        self._past = list(self._session._past)
        return self

    def __exit__(self, kind, value, trace):
        session = self._session
        if self._held is None:
            session._now = self._now
            session._past = self._past

    def hold_fast(self):
        """The session stays behind the block as it is then."""
        self._held = True


def attempted(session, changes, *, fast=False):
    """The programs behind each of some guards that are set in an attempt, held fast if fast is True."""
    found = []
    with Attempt(session) as attempt:
        for procedure, point, level in changes:
            session.guard(procedure, point, level)
            found.append(session.guarded())
        if fast is True:
            attempt.hold_fast()
    return found
