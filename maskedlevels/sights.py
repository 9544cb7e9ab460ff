"""Rows of sights: what the looks of runs show, one behind the other."""

from maskedlevels.errors import BadArgument
from maskedlevels.errors import BadNumber
from maskedlevels.programs import check_program
from maskedlevels.programs import is_within
from maskedlevels.programs import is_word
from maskedlevels.readings import Reading
from maskedlevels.texts import in_text_order
from maskedlevels.ways import script_to_any
from maskedlevels.words import Words

MOST_SIGHTS = 6


def is_any_sight(value):
    """Whether any value is a tuple of a word and an integer."""
    return type(value) is tuple and len(value) == 2 and is_word(value[0]) and type(value[1]) is int


def check_sights(program, word):
    """Raises BadArgument for what is no program, or no list or tuple of sights."""
    check_program(program)
    if type(word) not in (list, tuple) or not all([is_any_sight(sight) for sight in word]):
        raise BadArgument(word)


def reading_of(program, word):
    """The flow of the runs that have a word, or a beginning of it."""
    flow = Reading(program, word)
    flow.go(flow.root())
    return flow


def has_word(program, word):
    """Whether some run has a word."""
    check_sights(program, word)
    return len(reading_of(program, word).wholes()) > 0


def word_script(program, word):
    """A script with a word, with the fewest moves; None if there is none."""
    check_sights(program, word)
    flow = reading_of(program, word)
    return script_to_any(flow, flow.wholes())


def all_words(program, many):
    """Yields all words that runs have with at most so many sights, by length and then sight by sight."""
    check_program(program)
    if not is_within(many, 0, MOST_SIGHTS):
        raise BadNumber(many)
    words = Words(program)
    for length in range(many + 1):
        todo = [([], words.first())]
        while todo:
            word, bits = todo.pop()
            if len(word) == length:
                yield word
            else:
                longer = [([*word, sight], behind) for sight, behind in words.shown(bits).items()]
                todo.extend(longer[::-1])


def word_before(came, pair):
    """The word by which a pair was come to."""
    sights = []
    step = came[pair]
    while step is not None:
        before, sight = step
        sights.append(sight)
        step = came[before]
    return sights[::-1]


def parting_word(one, other):
    """A pair (number, word) of a shortest word that just one of two programs has, None if there is none."""
    check_program(one)
    check_program(other)
    # Sets of states may be many, and equal programs need none.
    if one == other:
        return None
    words = Words(one)
    others = Words(other)
    first = (words.first(), others.first())
    came = {first: None}
    todo = [first]
    while todo:
        reached = []
        for pair in todo:
            shown = words.shown(pair[0])
            seen = others.shown(pair[1])
            for sight in in_text_order([*shown, *seen]):
                behind = (shown.get(sight, 0), seen.get(sight, 0))
                if 0 in behind:
                    return (0 if sight in shown else 1, [*word_before(came, pair), sight])
                if behind not in came:
                    came[behind] = (pair, sight)
                    reached.append(behind)
        todo = reached
    return None


def show_alike(one, other):
    """Whether the same words are those of the runs of two programs."""
    return parting_word(one, other) is None
