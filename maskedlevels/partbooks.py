"""Parts of books: the pages of some activations, with what they take for granted of the others."""

from maskedlevels.books import least_pages
from maskedlevels.errors import BadArgument
from maskedlevels.frames import is_line
from maskedlevels.pages import are_pages
from maskedlevels.pages import ends_of
from maskedlevels.pages import first_page
from maskedlevels.pages import lines_at
from maskedlevels.pages import missing_pages
from maskedlevels.programs import check_program
from maskedlevels.steps import is_store
from maskedlevels.texts import in_text_order


def are_names(program, value):
    """Whether any value is a list or tuple of unlike names: of lines, or None for the main procedure."""
    if type(value) not in (list, tuple):
        return False
    if not all([name is None or is_line(program, name) for name in value]):
        return False
    return len({name: True for name in value}) == len(value)


def check_names(program, names):
    """Raises BadArgument for what is no program, or no names of its activations."""
    check_program(program)
    if not are_names(program, names):
        raise BadArgument(names)


def is_granted(program, names, value):
    """Whether any value is an end of a line that is none of the names."""
    if type(value) is not tuple or len(value) != 3:
        return False
    line, first, left = value
    if not is_line(program, line) or line in names:
        return False
    return is_store(program, first) and is_store(program, left)


def is_right(program, names, value):
    """Whether any value is a right part for some names."""
    if type(value) is not tuple or len(value) != 2:
        return False
    pages, granted = value
    if not are_pages(program, pages) or not all([page[0] in names for page in pages]):
        return False
    if type(granted) not in (list, tuple) or not all([is_granted(program, names, end) for end in granted]):
        return False
    return not missing_pages(program, names, pages, granted)


def begun_in(program, pages):
    """The tuples (line, store) with which lines begin that can be served at some pages, the keys of a dict."""
    return {(line, page[3]): True for page in pages for line in lines_at(program, page)}


def demanded(program, names, pages):
    """The tuples (line, store) with which lines begin at some pages that are none of the names."""
    return [(line, store) for line, store in begun_in(program, pages) if line not in names]


def part_of(program, names):
    """The part of the least book for some names."""
    check_names(program, names)
    pages = least_pages(program)
    own = [page for page in pages if page[0] in names]
    ends = ends_of(program, pages)
    granted = [(*begun, left) for begun in demanded(program, names, own) for left in ends.get(begun, {})]
    return (in_text_order(own), in_text_order(granted))


def is_part(program, names, value):
    """Whether any value is a right part for some names."""
    check_names(program, names)
    return is_right(program, names, value)


def demands(program, names, part):
    """The pairs (line, store) that begin at the pages of a part and are not its own."""
    check_names(program, names)
    if not is_right(program, names, part):
        raise BadArgument(part)
    return in_text_order(demanded(program, names, part[0]))


def is_named_part(program, value):
    """Whether any value is a pair of names and a right part for them."""
    if type(value) is not tuple or len(value) != 2:
        return False
    return are_names(program, value[0]) and is_right(program, value[0], value[1])


def check_parts(program, parts):
    """Raises BadArgument for what is no program, no list or tuple, or with the first that is no named part."""
    check_program(program)
    if type(parts) not in (list, tuple):
        raise BadArgument(parts)
    for entry in parts:
        if not is_named_part(program, entry):
            raise BadArgument(entry)


def pages_in(parts):
    """The pages of all parts, the keys of a dict."""
    return {page: True for _, part in parts for page in part[0]}


def not_begun(program, parts):
    """What begins in a part, or at the start, and has its first page in none."""
    had = pages_in(parts)
    begun = [(None, program.first_store()), *begun_in(program, had)]
    return [("begin", name, store) for name, store in begun if first_page(program, name, store) not in had]


def not_granted(program, part, ends):
    """The ends that some part has, of lines that begin in this one, and that this one neither has nor grants."""
    pages, granted = part
    own = ends_of(program, pages)
    taken = {end: True for end in granted}
    found = [(*begun, left) for begun in begun_in(program, pages) for left in ends.get(begun, {})]
    return [("end", *end) for end in found if end[2] not in own.get(end[:2], {}) and end not in taken]


def unkept_in(program, parts):
    """What parts need and all together do not keep, in any order, with doubles."""
    found = not_begun(program, parts)
    ends = ends_of(program, pages_in(parts))
    for _, part in parts:
        found.extend(not_granted(program, part, ends))
    return found


def unkept(program, parts):
    """What one of some parts needs and all together do not keep."""
    check_parts(program, parts)
    return in_text_order(unkept_in(program, parts))


def joined_book(program, parts):
    """The book of all pages of some parts, None if something is unkept."""
    check_parts(program, parts)
    if unkept_in(program, parts):
        return None
    return in_text_order(pages_in(parts))


def pages_by_name(program):
    """A dict from names to dicts of the pages of the least book that have them."""
    found = {}
    for page in least_pages(program):
        found.setdefault(page[0], {})[page] = True
    return found


def untouched(program, other):
    """The names that have the same pages in the least books of two programs."""
    check_program(program)
    check_program(other)
    names = [None, *[line for line in program.lines() if is_line(other, line)]]
    one = pages_by_name(program)
    two = pages_by_name(other)
    return [name for name in names if one.get(name, {}) == two.get(name, {})]
