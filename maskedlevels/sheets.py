"""Places, entries, tables and claims as texts: what is written is read back as it was."""

from maskedlevels.claims import CLAIM_PARTS
from maskedlevels.claims import is_claim
from maskedlevels.errors import BadArgument
from maskedlevels.errors import BadText
from maskedlevels.frames import is_entry
from maskedlevels.frames import is_place
from maskedlevels.notes import is_number
from maskedlevels.notes import word_of
from maskedlevels.programs import check_program
from maskedlevels.tables import are_entries

# The sorts of the parts of each thing.
PLACE_SORTS = ("name", "number", "number", "store", "number", "number")
ENTRY_SORTS = ("name", "number", "store", "number", "number", "number", "store", "number")
CLAIM_SORTS = {
    "never": ("place",),
    "unseen": ("name", "number", "number"),
    "apart": ("name",),
    "clean": ("name",),
    "bound": ("name", "number"),
}


def store_word(store):
    """The word of a store."""
    return ".".join([str(value) for value in store])


def place_word(place):
    """The word of a place."""
    procedure, point, kept, store, mask, floor = place
    return word_of((procedure, point, kept, store_word(store), mask, floor))


def entry_word(entry):
    """The word of an entry."""
    (procedure, floor, first, least), point, kept, store, mask = entry
    return word_of((procedure, floor, store_word(first), least, point, kept, store_word(store), mask))


def store_in(word):
    """The store that a word tells, None if it tells none."""
    numbers = word.split(".")
    if not all([is_number(number) for number in numbers]):
        return None
    return tuple([int(number) for number in numbers])


def place_in(word):
    """The place that a word tells, of any program; None if it tells none."""
    parts = parts_in(word.split(":"), PLACE_SORTS)
    return None if parts is None else tuple(parts)


def entry_in(word):
    """The entry that a word tells, of any program; None if it tells none."""
    parts = parts_in(word.split(":"), ENTRY_SORTS)
    return None if parts is None else (tuple(parts[:4]), *parts[4:])


def part_in(word, sort):
    """The part of a sort that a word tells, None if it tells none."""
    if sort == "number":
        return int(word) if is_number(word) else None
    if sort == "store":
        return store_in(word)
    return place_in(word) if sort == "place" else word


def parts_in(words, sorts):
    """The parts of some sorts that as many words tell, a list; None if they tell none."""
    if len(words) != len(sorts):
        return None
    parts = [part_in(word, sort) for word, sort in zip(words, sorts)]
    return None if None in parts else parts


def claim_in(text):
    """The claim that a text tells, of any program; None if it tells none."""
    kind, *words = text.split(" ")
    parts = parts_in(words, CLAIM_SORTS[kind]) if kind in CLAIM_PARTS else None
    return None if parts is None else (kind, *parts)


def write_place(program, place):
    """The word of a place of the program."""
    check_program(program)
    if not is_place(program, place):
        raise BadArgument(place)
    return place_word(place)


def write_entry(program, entry):
    """The word of an entry of the program."""
    check_program(program)
    if not is_entry(program, entry):
        raise BadArgument(entry)
    return entry_word(entry)


def write_table(program, table):
    """The text of a table: the word of each entry, each with a line feed behind it."""
    check_program(program)
    if not are_entries(program, table):
        raise BadArgument(table)
    return "".join([entry_word(entry) + "\n" for entry in table])


def write_claim(program, claim):
    """The text of a claim about the program."""
    check_program(program)
    if not is_claim(program, claim):
        raise BadArgument(claim)
    if claim[0] == "never":
        return f"never {place_word(claim[1])}"
    return " ".join([str(part) for part in claim])


def read_place(program, word):
    """The place of a word."""
    check_program(program)
    place = place_in(word) if type(word) is str else None
    if not is_place(program, place):
        raise BadText(word)
    return place


def read_entry(program, word):
    """The entry of a word."""
    check_program(program)
    entry = entry_in(word) if type(word) is str else None
    if not is_entry(program, entry):
        raise BadText(word)
    return entry


def read_table(program, text):
    """The list of the entries of a text."""
    check_program(program)
    if type(text) is not str:
        raise BadText(0)
    *words, last = text.split("\n")
    entries = [entry_in(word) for word in words]
    for at, entry in enumerate(entries, start=1):
        if not is_entry(program, entry):
            raise BadText(at)
    # Behind the last line feed there is nothing.
    if last != "":
        raise BadText(len(words) + 1)
    return entries


def read_claim(program, text):
    """The claim of a text."""
    check_program(program)
    claim = claim_in(text) if type(text) is str else None
    if not is_claim(program, claim):
        raise BadText(text)
    return claim
