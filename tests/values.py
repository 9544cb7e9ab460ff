"""Values of all kinds, and programs that several tests use."""

from maskedlevels.programs import Program


class Stubborn:
    """Refuses to be compared, hashed, measured and tested."""

    def __eq__(self, other):
        raise RuntimeError("not to be compared")

    def __hash__(self):
        raise RuntimeError("not to be hashed")

    def __len__(self):
        raise RuntimeError("not to be measured")

    def __bool__(self):
        raise RuntimeError("not to be tested")

    def __iter__(self):
        raise RuntimeError("not to be iterated over")


class Friendly:
    """Is equal to everything."""

    def __eq__(self, other):
        return True

    def __hash__(self):
        return hash("main")


def odd_values():
    """Values that are right nowhere, but for None, () and {}, [] and the like; new ones in each call."""
    return [
        None, True, False, 0.0, 1.0, 2.5, float("nan"), 1j, "", " ", "Main", "main ", "a b", "x1", "_", "\u00e9",
        "\u0430", "abcdefghi", b"main", b"", (), (1,), ("main",), ("main", 0, 0), [], ["main"], [("row", 0)], {},
        {"main": -1}, set(), frozenset(), {1}, range(2), object(), object, int, len, Program, Stubborn(), Friendly(),
        [Stubborn()], (Stubborn(), Friendly()), {"main": Stubborn()}, -1, 10 ** 30, -(10 ** 30), lambda: 0,
        Ellipsis, NotImplemented, iter([]), ValueError("x"),
    ]


def are_same(one, other):
    """Whether two lists have the very same objects."""
    return len(one) == len(other) and all(a is b for a, b in zip(one, other))


def small_parts(**changes):
    """What a plain program is made with, with some parts changed."""
    parts = {
        "levels": 2,
        "size": 3,
        "start": {"y": 1, "x": 0},
        "procedures": {
            "main": [("set", "x", 1), ("open", "s"), ("call", "sub"), ("close", "s")],
            "sub": [("add", "y", 2)],
            "clock": [("copy", "x", "y")],
            "bell": [],
        },
        "lines": {"tick": (1, "clock"), "ring": (2, "bell"), "alarm": (2, "clock")},
        "main": "main",
        "guards": {("main", 4): 1, ("clock", 0): 2},
    }
    parts.update(changes)
    return parts


def small_program(**changes):
    return Program(**small_parts(**changes))


def one_row(row, **changes):
    """A program whose main procedure has this row alone, and cells c, d."""
    procedures = {"main": [row], "sub": [], "serve": []}
    parts = {
        "levels": 2, "size": 3, "start": {"c": 0, "d": 1}, "procedures": procedures,
        "lines": {"t": (1, "serve"), "u": (2, "serve")},
    }
    parts.update(changes)
    return Program(**parts)


class Refusals:
    """Holds errors against what they keep; mixed into tests."""

    def refuses(self, error, value, told, *args, **named):
        with self.assertRaises(error) as caught:
            told(*args, **named)
        self.assertIs(type(caught.exception), error)
        (kept,) = vars(caught.exception).values()
        self.assertIs(kept, value)
