"""Books of pages: where activations can be with all their frames, and which books are closed."""

from maskedlevels.errors import BadArgument
from maskedlevels.pages import are_pages
from maskedlevels.pages import behind_service
from maskedlevels.pages import first_page
from maskedlevels.pages import is_over
from maskedlevels.pages import lines_at
from maskedlevels.pages import main_page
from maskedlevels.pages import missing_pages
from maskedlevels.pages import note_end
from maskedlevels.pages import rows_behind
from maskedlevels.programs import check_program
from maskedlevels.texts import in_text_order


def all_names(program):
    """The names of all activations: None for the main procedure, and the lines."""
    return [None, *program.lines()]


def pages_behind(program, page, waiting, ends):
    """The pages that follow from a new page and from what is known of others.

    Pages at which an activation was begun wait for its ends: both are kept by tuples
    (line, first), and grow here.
    """
    found = rows_behind(program, page)
    for line in lines_at(program, page):
        begun = (line, page[3])
        found.append(first_page(program, line, page[3]))
        waiting.setdefault(begun, []).append(page)
        found.extend([behind_service(page, left) for left in ends.get(begun, {})])
    if is_over(program, page) and note_end(ends, page[:2], page[3]):
        found.extend([behind_service(other, page[3]) for other in waiting.get(page[:2], [])])
    return found


def least_pages(program):
    """The pages of the least book, in any order."""
    start = main_page(program)
    found = {start: True}
    todo = [start]
    waiting = {}
    ends = {}
    while todo:
        asked = pages_behind(program, todo.pop(), waiting, ends)
        for page in asked:
            if page not in found:
                found[page] = True
                todo.append(page)
    return list(found)


def book_of(program):
    """The least book."""
    check_program(program)
    return in_text_order(least_pages(program))


def is_book(program, value):
    """Whether any value is a book of the program."""
    check_program(program)
    return are_pages(program, value) and not missing_pages(program, all_names(program), value, [])


def lacking(program, pages):
    """The pages that some pages lack at the first step to be a book."""
    check_program(program)
    if not are_pages(program, pages):
        raise BadArgument(pages)
    return in_text_order(missing_pages(program, all_names(program), pages, []))
