"""Tables of entries, and which of them are closed."""

from maskedlevels.errors import BadArgument
from maskedlevels.flows import flow_of
from maskedlevels.frames import begun_at
from maskedlevels.frames import behind_frame
from maskedlevels.frames import behind_rows
from maskedlevels.frames import first_entry
from maskedlevels.frames import is_entry
from maskedlevels.frames import main_beginning
from maskedlevels.frames import row_of
from maskedlevels.programs import check_program
from maskedlevels.texts import in_text_order


def are_entries(program, value):
    """Whether any value is a table: a list or tuple of entries of the program."""
    if type(value) not in (list, tuple):
        return False
    return all([is_entry(program, entry) for entry in value])


def check_table(program, table):
    """Raises BadArgument for any value that is no list or tuple of entries of the program."""
    if not are_entries(program, table):
        raise BadArgument(table)


def ends_in(program, table):
    """A dict from beginnings to the entries of a table at the end of their frames."""
    found = {}
    for entry in table:
        if row_of(program, entry) is None:
            found.setdefault(entry[0], []).append(entry)
    return found


def asked_by(program, entry, ends):
    """The entries that an entry of a table asks for, with the ends that the table has."""
    asked = [behind for _, behind in behind_rows(program, entry)]
    for move, begun in begun_at(program, entry):
        asked.append(first_entry(begun))
        asked.extend([behind_frame(entry, move, end) for end in ends.get(begun, [])])
    return asked


def missing(program, table):
    """The entries that a table needs at the first step, in any order, with doubles."""
    had = {entry: True for entry in table}
    ends = ends_in(program, list(had))
    first = first_entry(main_beginning(program))
    found = [] if first in had else [first]
    for entry in had:
        found.extend([asked for asked in asked_by(program, entry, ends) if asked not in had])
    return found


def table_of(program):
    """The least closed table."""
    check_program(program)
    return in_text_order(flow_of(program).entries())


def is_table(program, value):
    """Whether any value is a closed table of entries of the program."""
    check_program(program)
    return are_entries(program, value) and not missing(program, value)


def more_of(program, table):
    """The entries that a table needs to be closed at the first step, and has not."""
    check_program(program)
    check_table(program, table)
    return in_text_order(missing(program, table))


def joined(program, *tables):
    """All entries of some tables."""
    check_program(program)
    found = []
    for table in tables:
        check_table(program, table)
        found.extend(list(table))
    return in_text_order(found)
