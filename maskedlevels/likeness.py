"""Which programs are alike: what their activations leave, and what can be served in them."""

from maskedlevels.flows import Flow
from maskedlevels.frames import bound_at
from maskedlevels.frames import line_beginning
from maskedlevels.frames import main_beginning
from maskedlevels.programs import check_program
from maskedlevels.texts import in_text_order


def form_of(program):
    """The first things in which programs that are alike are equal."""
    levels = [(line, program.line_of(line)[0]) for line in program.lines()]
    return (program.cells(), program.size, program.levels, levels, program.first_store(), program.sections())


def stores_of(program):
    """All stores of a program, ascending."""
    stores = [()]
    for many in [program.size] * len(program.cells()) + [2] * len(program.sections()):
        stores = [(*store, value) for store in stores for value in range(many)]
    return stores


def names_of(program):
    """A tuple (name, store) for the main procedure (None) and its store, and for each line with each store."""
    return [(None, program.first_store())] + pairs_of(program)


def pairs_of(program):
    """A tuple (line, store) for each line and each store."""
    stores = stores_of(program)
    return [(line, store) for line in program.lines() for store in stores]


class Shown:
    """What activations of a program leave, and which lines can be served in them with which stores.

    Many activations share what is served in them, so pairs of a line and a store are
    told as numbers in which each pair has a bit of its own.
    """

    def __init__(self, program, bits):
        self._program = program
        self._flow = Flow(program)
        for name, store in names_of(program):
            self._flow.go(self._beginning(name, store))
        self._begun = self._frames_begun()
        self._here = self._served_here(bits)
        self._within = {}

    def _beginning(self, name, store):
        """The beginning of an activation."""
        if name is None:
            return main_beginning(self._program)
        return line_beginning(self._program, name, store)

    def _frames_begun(self):
        """A dict from beginnings to dicts of the beginnings of the frames that begin in them."""
        found = {}
        for entry, _, begun in self._flow.begun():
            found.setdefault(entry[0], {})[begun] = True
        return found

    def _served_here(self, bits):
        """A dict from beginnings to what can be served in their frames themselves."""
        found = {}
        for entry in self._flow.entries():
            served = found.get(entry[0], 0)
            for line in self._program.lines_above(bound_at(self._program, entry)):
                served = served | bits[(line, entry[3])]
            found[entry[0]] = served
        return found

    def _served_within(self, beginning):
        """What can be served in a frame and in all that begin in it."""
        if beginning not in self._within:
            served = self._here[beginning]
            for begun in self._begun.get(beginning, {}):
                served = served | self._served_within(begun)
            self._within[beginning] = served
        return self._within[beginning]

    def served(self, name, store):
        """What can be served in an activation and in those above that begin in it."""
        return self._served_within(self._beginning(name, store))

    def ends(self, name, store):
        """The ends of an activation: with their masks for the main procedure, stores alone for a line."""
        ends = self._flow.ends(self._beginning(name, store))
        return in_text_order([end[3:] if name is None else end[3] for end in ends])


def unlike_end(ends, others):
    """The first end that just one of two lists has, None if there is none."""
    for end in in_text_order(ends + others):
        if end not in ends or end not in others:
            return end
    return None


def unlike_pair(pairs, bits, served, other):
    """The first pair of a line and a store that just one of two numbers has, None if there is none."""
    unlike = served ^ other
    if unlike > 0:
        for pair in pairs:
            if unlike & bits[pair] > 0:
                return pair
    return None


def difference(one, other):
    """In what two programs are unlike, None if they are alike."""
    check_program(one)
    check_program(other)
    if form_of(one) != form_of(other):
        return ("form",)
    pairs = pairs_of(one)
    bits = {pair: 1 << seat for seat, pair in enumerate(pairs)}
    first = Shown(one, bits)
    second = Shown(other, bits)
    for name, store in names_of(one):
        end = unlike_end(first.ends(name, store), second.ends(name, store))
        if end is not None:
            return (name, store, None, end)
        pair = unlike_pair(pairs, bits, first.served(name, store), second.served(name, store))
        if pair is not None:
            return (name, store, *pair)
    return None


def alike(one, other):
    """Whether two programs are alike."""
    return difference(one, other) is None
