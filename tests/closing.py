"""The rules of tables once more, word by word, to hold the tables against."""

from tests.walks import Traced


def behind_row(program, entry):
    """The entries behind each way to do the row of an entry; none at a call and at an end."""
    (procedure, floor, _, _), point, kept, store, mask = entry
    rows = program[procedure]
    if point == len(rows) or rows[point][0] == "call":
        return []
    found = []
    for choice in range({"any": program.size, "either": 2}.get(rows[point][0], 1)):
        player = Traced(program, (procedure, floor, store, mask))
        player.pile[0]["frames"] = [[procedure, point, kept]]
        player.make(("row", choice))
        _, new_point, new_kept, new_store, new_mask, _ = player.place()
        found.append((entry[0], new_point, new_kept, new_store, new_mask))
    return found


def is_end(program, entry):
    return entry[1] == len(program[entry[0][0]])


def asked(program, table):
    """All that the rules ask for, for the entries of a table."""
    first = (program.main, 0, program.first_store(), 0)
    wanted = {(first, 0, 0, program.first_store(), 0)}
    ends = {}
    for entry in table:
        if is_end(program, entry):
            ends.setdefault(entry[0], set()).add(entry[3:])
    for entry in table:
        (procedure, floor, _, _), point, kept, store, mask = entry
        wanted.update(behind_row(program, entry))
        for line in program.lines():
            level, serving = program.line_of(line)
            if level > mask and level > program.guard_at(procedure, point):
                begun = (serving, level, store, level)
                wanted.add((begun, 0, 0, store, level))
                wanted.update((entry[0], point, kept, left, mask) for left, _ in ends.get(begun, ()))
        if not is_end(program, entry) and program[procedure][point][0] == "call":
            begun = (program[procedure][point][1], floor, store, mask)
            wanted.add((begun, 0, 0, store, mask))
            wanted.update((entry[0], point + 1, kept, left, new) for left, new in ends.get(begun, ()))
    return wanted


def closure(program, table=()):
    """The least closed set of entries that has all of a table."""
    found = set(table)
    while not asked(program, found) <= found:
        found |= asked(program, found)
    return found
