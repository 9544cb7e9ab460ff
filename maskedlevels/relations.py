"""Relations between stores: what frames and lines make of them, under all arrivals."""

from maskedlevels.errors import BadArgument
from maskedlevels.errors import BadMask
from maskedlevels.errors import BadStore
from maskedlevels.flows import Flow
from maskedlevels.frames import is_beginning
from maskedlevels.frames import line_beginning
from maskedlevels.programs import check_program
from maskedlevels.programs import is_within
from maskedlevels.steps import is_store
from maskedlevels.texts import in_text_order


def is_integers(value):
    """Whether any value is a tuple of integers."""
    return type(value) is tuple and all([type(part) is int for part in value])


def is_pair(value):
    """Whether any value is a tuple of two tuples of integers."""
    return type(value) is tuple and len(value) == 2 and all([is_integers(part) for part in value])


def check_row(values):
    """Raises BadArgument for any value that is no list and no tuple."""
    if type(values) not in (list, tuple):
        raise BadArgument(values)


def check_pairs(pairs):
    """Raises BadArgument for what is no row of pairs: with the first that is none, if it is a row."""
    check_row(pairs)
    for pair in pairs:
        if not is_pair(pair):
            raise BadArgument(pair)


def check_integers(store):
    """Raises BadArgument for any value that is no tuple of integers."""
    if not is_integers(store):
        raise BadArgument(store)


def check_stores(stores):
    """Raises BadArgument for what is no row of tuples of integers: with the first that is none, if it is a row."""
    check_row(stores)
    for store in stores:
        check_integers(store)


def check_relation(other):
    """Raises BadArgument for any value that is no relation."""
    if not isinstance(other, Relation):
        raise BadArgument(other)


def grouped(pairs):
    """A dict from each first one of some pairs to the list of those behind it."""
    found = {}
    for one, other in pairs:
        found.setdefault(one, []).append(other)
    return found


def had_from(step, store):
    """All stores that can be had from a store, itself among them; step tells what one step makes of a store."""
    found = {store: True}
    todo = [store]
    while todo:
        new = [other for other in in_text_order(step(todo.pop())) if other not in found]
        for other in new:
            found[other] = True
        todo.extend(new)
    return list(found)


class Relation:
    """A set of pairs of stores; it never changes."""

    def __init__(self, pairs):
        check_pairs(pairs)
        self._pairs = {pair: True for pair in in_text_order(pairs)}
        self._behind = grouped(list(self._pairs))

    def pairs(self):
        """The pairs."""
        return list(self._pairs)

    def stores(self):
        """All stores in the pairs."""
        return in_text_order([store for pair in self._pairs for store in pair])

    def __contains__(self, pair):
        return is_pair(pair) and pair in self._pairs

    def __len__(self):
        return len(self._pairs)

    def __call__(self, store):
        """All that stand behind a store."""
        check_integers(store)
        return in_text_order(self._behind.get(store, []))

    def __or__(self, other):
        check_relation(other)
        return Relation(list(self._pairs) + list(other._pairs))

    def __and__(self, other):
        check_relation(other)
        return Relation([pair for pair in self._pairs if pair in other._pairs])

    def __sub__(self, other):
        check_relation(other)
        return Relation([pair for pair in self._pairs if pair not in other._pairs])

    def __mul__(self, other):
        """The pairs of what stands one behind the other."""
        check_relation(other)
        return Relation([(one, last) for one, mid in self._pairs for last in other._behind.get(mid, [])])

    def __le__(self, other):
        """Whether all pairs are in the other one."""
        check_relation(other)
        return all([pair in other._pairs for pair in self._pairs])

    def __eq__(self, other):
        return isinstance(other, Relation) and self._pairs == other._pairs

    def turned(self):
        """All pairs turned about."""
        return Relation([(other, one) for one, other in self._pairs])

    def closed(self, stores=()):
        """What can be had by any number of pairs one behind the other, for some stores and all in the pairs."""
        check_stores(stores)

        def step(store):
            return self._behind.get(store, [])

        firsts = in_text_order([*stores, *self.stores()])
        return Relation([(first, last) for first in firsts for last in had_from(step, first)])

    @staticmethod
    def same(stores):
        """Each store with itself."""
        check_stores(stores)
        return Relation([(store, store) for store in stores])


def check_store(program, store):
    """Raises BadStore for any value that is no store of the program."""
    if not is_store(program, store):
        raise BadStore(store)


def lefts(program, flow, line, store):
    """The stores that a line can leave when it is served with a store, in any order, with doubles."""
    beginning = line_beginning(program, line, store)
    flow.go(beginning)
    return [end[3] for end in flow.ends(beginning)]


def outcomes(program, beginning):
    """All tuples (store, mask) with which a frame with a beginning can come to its end."""
    check_program(program)
    if not is_beginning(program, beginning):
        raise BadArgument(beginning)
    flow = Flow(program)
    flow.go(beginning)
    return in_text_order([end[3:] for end in flow.ends(beginning)])


def served(program, line, store):
    """The stores that a line can leave when it is served with a store."""
    check_program(program)
    program.line_of(line)
    check_store(program, store)
    return in_text_order(lefts(program, Flow(program), line, store))


def between(program, level, store):
    """The stores that can be had from a store when lines above a level are served, one after the other."""
    check_program(program)
    if not is_within(level, 0, program.levels):
        raise BadMask(level)
    check_store(program, store)
    flow = Flow(program)
    lines = program.lines_above(level)

    def step(here):
        return [left for line in lines for left in lefts(program, flow, line, here)]

    return in_text_order(had_from(step, store))


def relation_of(program, line, stores):
    """The relation of each store with those that a line can leave when it is served with it."""
    check_program(program)
    program.line_of(line)
    check_row(stores)
    for store in stores:
        check_store(program, store)
    flow = Flow(program)
    return Relation([(store, left) for store in stores for left in lefts(program, flow, line, store)])
