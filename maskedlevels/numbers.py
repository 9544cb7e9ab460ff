"""Numbered books: pages with numbers that show wishes for lines, stretches and piles."""

from maskedlevels.books import all_names
from maskedlevels.books import least_pages
from maskedlevels.errors import BadWish
from maskedlevels.graphs import most_behind
from maskedlevels.graphs import turning
from maskedlevels.mends import is_many
from maskedlevels.mends import is_wish
from maskedlevels.pages import activation_of
from maskedlevels.pages import bound_of
from maskedlevels.pages import ends_of
from maskedlevels.pages import first_page
from maskedlevels.pages import is_at_row
from maskedlevels.pages import is_over
from maskedlevels.pages import is_page
from maskedlevels.pages import lines_at
from maskedlevels.pages import main_page
from maskedlevels.pages import missing_pages
from maskedlevels.pages import rows_behind
from maskedlevels.pages import services_behind
from maskedlevels.programs import check_program
from maskedlevels.steps import greater
from maskedlevels.texts import in_text_order

NUMBERED_WISHES = ("served", "short", "shallow")


def check_numbered_wish(program, wish):
    """Raises BadArgument for what is no program, BadWish for what is no wish that numbers show."""
    check_program(program)
    if not is_wish(program, wish) or wish[0] not in NUMBERED_WISHES:
        raise BadWish(wish)


def is_numbered_page(program, value):
    """Whether any value is a pair of a page and a number that is not negative."""
    if type(value) is not tuple or len(value) != 2:
        return False
    return is_page(program, value[0]) and is_many(value[1])


def numbers_in(program, value):
    """The numbers of the pages of a numbered book, a dict; None for any value that is none."""
    if type(value) not in (list, tuple) or not all([is_numbered_page(program, pair) for pair in value]):
        return None
    numbers = {page: number for page, number in value}
    if len(numbers) < len(value) or missing_pages(program, all_names(program), list(numbers), []):
        return None
    return numbers


def kept_in(program, level, pages):
    """The pages of a book that have a bound of at least a level, the keys of a dict."""
    return {page: True for page in pages if bound_of(program, page) >= level}


def steps_served(program, line, pages):
    """The steps that a line is kept out by, none of them served: a graph, each step with one to be counted."""
    kept = kept_in(program, program.line_of(line)[0], pages)
    return {page: [(1, behind) for behind in rows_behind(program, page) if behind in kept] for page in kept}


def steps_short(program, level, pages):
    """The steps of stretches of a level: a graph, each step with its rows."""
    kept = kept_in(program, level, pages)
    ends = ends_of(program, pages)
    graph = {}
    for page in kept:
        rows = 1 if is_at_row(program, page) else 0
        graph[page] = [(rows, behind) for behind in rows_behind(program, page) if behind in kept]
        graph[page].extend([(0, behind) for behind in services_behind(program, page, ends)])
    return graph


def steps_of(program, wish, pages):
    """A tuple (graph, least): the steps among the pages of a book, and numbers that some pages have at least."""
    if wish[0] == "served":
        return (steps_served(program, wish[1], pages), {})
    graph = steps_short(program, wish[1], pages)
    return (graph, {page: 1 for page in graph if is_at_row(program, page)})


def is_descending(graph, least, numbers):
    """Whether the numbers of pages are great enough for the steps from them on."""
    for page, steps in graph.items():
        if numbers[page] < least.get(page, 0):
            return False
        if not all([numbers[page] >= rows + numbers[behind] for rows, behind in steps]):
            return False
    return True


def is_piled(program, numbers):
    """Whether the numbers of first pages are great enough for the frames of their activations and of lines above."""
    for page in numbers:
        first = first_page(program, page[0], page[1])
        if first not in numbers:
            return False
        above = [numbers[first_page(program, line, page[3])] for line in lines_at(program, page)]
        if not all([numbers[first] >= len(page[2]) + number for number in [0, *above]]):
            return False
    return True


def is_rest(program, page):
    """Whether a page is that of the main procedure at its end."""
    return page[0] is None and is_over(program, page)


def are_showing(program, wish, numbers):
    """Whether the numbers of the pages of a book show a wish."""
    if wish[0] == "shallow":
        return is_piled(program, numbers) and numbers[main_page(program)] <= wish[1]
    graph, least = steps_of(program, wish, numbers)
    if wish[0] == "served" and any([is_rest(program, page) for page in graph]):
        return False
    if wish[0] == "short" and not all([numbers[page] <= wish[2] for page in graph]):
        return False
    return is_descending(graph, least, numbers)


def piles_of(program, pages):
    """The least numbers of first pages for the frames of their activations and of lines above."""
    groups = {}
    for page in pages:
        groups.setdefault(page[:2], []).append(page)
    numbers = {}
    # A line that is served has a greater level than what it is served in.
    for level in reversed(range(program.levels + 1)):
        begun = [pair for pair in groups if activation_of(program, pair[0])[0] == level]
        for name, first in begun:
            most = 0
            for page in groups[(name, first)]:
                above = [numbers[first_page(program, line, page[3])] for line in lines_at(program, page)]
                for number in [0, *above]:
                    most = greater(most, len(page[2]) + number)
            numbers[first_page(program, name, first)] = most
    return numbers


def least_numbers(program, wish, pages):
    """The least numbers of pages of the least book that can show a wish; None if there are none."""
    if wish[0] == "shallow":
        return piles_of(program, pages)
    graph, least = steps_of(program, wish, pages)
    if turning(graph):
        return None
    return most_behind(graph, least)


def numbered(program, wish):
    """A numbered book that shows a wish, None if it is not met."""
    check_numbered_wish(program, wish)
    pages = least_pages(program)
    least = least_numbers(program, wish, pages)
    if least is None:
        return None
    # The numbers of the other pages may be anything.
    numbers = {page: least.get(page, 0) for page in pages}
    if not are_showing(program, wish, numbers):
        return None
    return in_text_order([(page, number) for page, number in numbers.items()])


def is_proved(program, value, wish):
    """Whether any value is a numbered book that shows a wish."""
    check_numbered_wish(program, wish)
    numbers = numbers_in(program, value)
    return numbers is not None and are_showing(program, wish, numbers)
