"""[2]: how the calls are made and what they tell: names, orders, doubles, and that nothing changes by them."""

import inspect
import itertools
import random
import unittest

from maskedlevels.books import book_of, is_book, lacking
from maskedlevels.claims import against, holds, is_shown
from maskedlevels.consoles import Console
from maskedlevels.errors import LevelError
from maskedlevels.likeness import alike, difference
from maskedlevels.machine import played
from maskedlevels.masks import keeps, left_script, masks_left
from maskedlevels.mends import Mend, is_met
from maskedlevels.notes import read_move, read_program, read_script, write_move, write_program, write_script
from maskedlevels.numbers import is_proved, numbered
from maskedlevels.pairs import is_torn, pair_sights, torn_script
from maskedlevels.partbooks import demands, is_part, joined_book, part_of, unkept, untouched
from maskedlevels.piles import deepest, pile_script
from maskedlevels.programs import Program
from maskedlevels.reached import can_come, masks_at, meetings, places, script_to, seen_at
from maskedlevels.relations import Relation, between, outcomes, relation_of, served
from maskedlevels.sessions import Attempt, Session, attempted
from maskedlevels.starving import endless, endless_ring, starved, starving
from maskedlevels.stretches import longest, stretch_ring, stretch_script
from maskedlevels.tables import is_table, joined, more_of, table_of
from maskedlevels.waits import longest_wait, wait_ring, wait_script
from tests.values import odd_values
from tests.walks import few_program

ROWS = {
    "main": [("any", "x"), ("keep",), ("open", "s"), ("look", "x"), ("call", "sub")] + [("keep",)] * 6
    + [("look", "y"), ("open", "s"), ("give",)],
    "sub": [("raise", 2), ("add", "y", 1)], "put": [("set", "x", 1), ("any", "y")], "flip": [("close", "s"), ("mask", 3)],
}
LINES = {"t": (1, "put"), "u": (3, "flip")}
GUARDS = {("main", 3): 1, ("main", 11): 2}
START = {"x": 2, "y": 0}
STORE = (0, 1, 1)
PLACE = ("main", 12, 0, (1, 1, 1), 2, 0)
MENU = [("main", 0, 1), ("main", 12, 3), ("sub", 0, 1)]
WISHES = [("apart", "s"), ("short", 1, 10), ("unseen", "main", 3, 1)]


# Scripts, and what is told in an order of its own.
UNORDERED = ("script_to", "against", "read_script", "left_script", "torn_script", "attempted", "least", "say")


def made(turned=False):
    """A program; turned about, an equal one with the keys of all its dicts in another order."""
    parts = [dict(reversed(list(part.items()))) if turned else dict(part) for part in (START, ROWS, LINES, GUARDS)]
    start, rows, lines, guards = parts
    return Program(3, 3, start, {name: list(row) for name, row in rows.items()}, lines, guards=guards)


def calls_of(program):
    """Each call of these modules with arguments by their names."""
    table, book = table_of(program), book_of(program)
    parts = [(names, part_of(program, names)) for names in (["t", None], ("u",))]
    return [
        (outcomes, {"program": program, "beginning": ("sub", 1, STORE, 1)}),
        (served, {"program": program, "line": "t", "store": STORE}),
        (between, {"program": program, "level": 0, "store": STORE}),
        (relation_of, {"program": program, "line": "u", "stores": [STORE, (2, 2, 0), STORE]}),
        (Relation, {"pairs": [((1,), (2,)), ((1,), (-2, 10)), ((1,), (2,))]}),
        (Relation([((1,), (2,))]), {"store": (1,)}),
        (Relation([((1,), (2,))]).closed, {"stores": ((3,), ())}),
        (Relation.same, {"stores": [(3,), (), (3,)]}),
        (places, {"program": program}),
        (can_come, {"program": program, "value": PLACE}),
        (seen_at, {"program": program, "procedure": "main", "point": 3}),
        (meetings, {"program": program, "section": "s"}),
        (masks_at, {"program": program, "procedure": "sub", "point": 1}),
        (script_to, {"program": program, "place": PLACE}),
        (table_of, {"program": program}),
        (is_table, {"program": program, "value": table}),
        (more_of, {"program": program, "table": tuple(table[5:] + table[5:9])}),
        (joined, {"program": program}),
        (holds, {"program": program, "claim": ("bound", "sub", 2)}),
        (is_shown, {"program": program, "value": table, "claim": ("clean", "put")}),
        (against, {"program": program, "claim": ("apart", "s")}),
        (write_move, {"move": ("row", 3)}),
        (read_move, {"word": "serve:t"}),
        (write_script, {"script": [("row", 3), ("serve", "t")]}),
        (read_script, {"text": "row:3 serve:t"}),
        (write_program, {"program": program}),
        (read_program, {"note": write_program(program)}),
        (masks_left, {"program": program, "procedure": "sub"}),
        (keeps, {"program": program, "procedure": "sub"}),
        (left_script, {"program": program, "procedure": "sub"}),
        (starved, {"program": program}),
        (starving, {"program": program, "line": "t"}),
        (endless, {"program": program, "arrivals": True}),
        (endless_ring, {"program": program, "floor": 0, "arrivals": False}),
        (longest, {"program": program, "level": 1}),
        (stretch_ring, {"program": program, "level": 3}),
        (stretch_script, {"program": program, "level": 2}),
        (deepest, {"program": program, "sizes": {"sub": 3, "flip": 0}}),
        (pile_script, {"program": program, "sizes": {"put": 1000}}),
        (is_met, {"program": program, "wish": ("short", 1, 9)}),
        (Mend(program, MENU, WISHES).behind, {"choice": (0, 2)}),
        (Mend(program, MENU, WISHES).unmet, {"choice": (1,)}),
        (Mend(program, MENU, WISHES).least, {}),
        (alike, {"one": program, "other": made()}),
        (difference, {"one": program, "other": program.with_guards({("main", 0): 3})}),
        (attempted, {"session": Session(program), "changes": list(MENU), "fast": False}),
        (Console(program).say, {"row": "guards"}),
        (pair_sights, {"program": program, "one": "x", "other": "y"}),
        (is_torn, {"program": program, "one": "x", "other": "y"}),
        (torn_script, {"program": program, "one": "x", "other": "y"}),
        (book_of, {"program": program}),
        (is_book, {"program": program, "value": book}),
        (lacking, {"program": program, "pages": tuple(book[5:] + book[5:9])}),
        (numbered, {"program": program, "wish": ("shallow", 5)}),
        (is_proved, {"program": program, "value": numbered(program, ("served", "u")), "wish": ("served", "u")}),
        (part_of, {"program": program, "names": [None, "u"]}),
        (is_part, {"program": program, "names": ("u",), "value": parts[1][1]}),
        (demands, {"program": program, "names": ["t", None], "part": parts[0][1]}),
        (unkept, {"program": program, "parts": parts[1:]}),
        (joined_book, {"program": program, "parts": parts}),
        (untouched, {"program": program, "other": program.with_guards({})}),
        (longest_wait, {"program": program, "line": "t", "allowance": {"u": 2}}),
        (wait_script, {"program": program, "line": "t", "allowance": {"u": 1}}),
        (wait_ring, {"program": program, "line": "u", "allowance": {}}),
    ]


def by_position(call, named):
    """Makes a call with all arguments by position that can be given so."""
    kinds = inspect.signature(call).parameters
    behind = {name: value for name, value in named.items() if kinds[name].kind == inspect.Parameter.KEYWORD_ONLY}
    return call(*[value for name, value in named.items() if name not in behind], **behind)


def kept(value):
    """A copy of lists, tuples and dicts, also of those within them."""
    if type(value) in (list, tuple):
        return type(value)([kept(part) for part in value])
    if type(value) is dict:
        return {name: kept(part) for name, part in value.items()}
    return value


def plain(value):
    """What is told as a value that can be kept and compared."""
    return value.pairs() if isinstance(value, Relation) else value


class CallsTest(unittest.TestCase):
    def test_each_call_by_the_names_of_its_parameters_in_any_order(self):
        for call, named in calls_of(made()):
            wanted = plain(by_position(call, named))
            for order in itertools.permutations(named):
                self.assertEqual(plain(call(**{name: named[name] for name in order})), wanted)

    def test_parameters_have_the_names_of_the_interface(self):
        wanted = {
            outcomes: "program beginning", served: "program line store", between: "program level store",
            relation_of: "program line stores", places: "program", can_come: "program value", seen_at: "program procedure point",
            meetings: "program section", masks_at: "program procedure point", script_to: "program place", table_of: "program",
            is_table: "program value", more_of: "program table", joined: "program tables", holds: "program claim",
            is_shown: "program value claim", against: "program claim", write_move: "move", read_move: "word",
            write_script: "script", read_script: "text", write_program: "program", read_program: "note",
            masks_left: "program procedure", keeps: "program procedure", left_script: "program procedure", starved: "program",
            starving: "program line", endless: "program arrivals", endless_ring: "program floor arrivals",
            longest: "program level", stretch_ring: "program level", stretch_script: "program level",
            deepest: "program sizes", pile_script: "program sizes", is_met: "program wish", Mend: "program menu wishes",
            Mend(made(), [], []).behind: "choice", Mend(made(), [], []).unmet: "choice", Mend(made(), [], []).least: "",
            Mend(made(), [], []).mending: "", alike: "one other", difference: "one other", Session: "program",
            Session(made()).guard: "procedure point level", Session(made()).undo: "", attempted: "session changes fast",
            Attempt: "session", Console: "program", Console(made()).say: "row", pair_sights: "program one other",
            is_torn: "program one other", torn_script: "program one other", book_of: "program", is_book: "program value",
            lacking: "program pages", numbered: "program wish", is_proved: "program value wish", part_of: "program names",
            is_part: "program names value", demands: "program names part", unkept: "program parts",
            joined_book: "program parts", untouched: "program other", longest_wait: "program line allowance",
            wait_script: "program line allowance", wait_ring: "program line allowance",
            Relation: "pairs", Relation.same: "stores", Relation([]).closed: "stores", Relation([]).__call__: "store",
        }
        for call, names in wanted.items():
            self.assertEqual(list(inspect.signature(call).parameters), names.split())

    def test_lists_are_in_the_order_of_texts_without_doubles(self):
        figures = 0
        for call, named in calls_of(made()):
            told = plain(call(**named))
            if type(told) is list and getattr(call, "__name__", "") not in UNORDERED:
                order = int if told and type(told[0]) is int else str
                self.assertEqual(told, sorted(set(told), key=order))
                # What has None in it has no other order.
                if "None" not in str(told):
                    figures += told != sorted(told)
        self.assertGreaterEqual(figures, 2)

    def test_the_same_call_tells_the_same_again(self):
        program, other = made(), made(turned=True)
        self.assertEqual(program, other)
        for (call, named), (again, renamed) in zip(calls_of(program), calls_of(other)):
            wanted = plain(call(**named))
            self.assertEqual(plain(call(**named)), wanted)
            self.assertEqual(plain(again(**renamed)), wanted)
        for place in places(program):
            script = script_to(program, place)
            self.assertEqual(script_to(other, place), script)
            self.assertEqual(played(program, script).place(), place)

    def test_what_is_told_belongs_to_the_caller(self):
        program = made()
        for call, named in calls_of(program):
            told = call(**named)
            if type(told) is list:
                before = list(told)
                told.append(None)
                told.reverse()
                self.assertEqual(call(**named), before)
                told.clear()
                self.assertEqual(call(**named), before)
            if type(told) is tuple:
                before = [list(part) if type(part) is list else part for part in told]
                for part in told:
                    if type(part) is list:
                        part.append(None)
                        part.reverse()
                self.assertEqual([list(part) if type(part) is list else part for part in call(**named)], before)
        self.assertEqual(program, made())

    def test_no_call_changes_what_it_was_given(self):
        program = made()
        for call, named in calls_of(program):
            before = kept(named)
            call(**named)
            self.assertEqual(named, before)
        self.assertEqual(program, made())

    def test_after_an_error_everything_is_as_before(self):
        program = made()
        calls = calls_of(program)
        wanted = [plain(call(**named)) for call, named in calls]
        for call, named in calls:
            for name in [name for name in named if call != attempted]:
                for odd in odd_values():
                    try:
                        call(**{**named, name: odd})
                    except LevelError:
                        pass
        self.assertEqual([plain(call(**named)) for call, named in calls], wanted)
        self.assertEqual(program, made())

    def test_any_value_in_any_place_raises_an_error_of_the_package_or_none(self):
        for call, named in calls_of(made()):
            # Nothing is said of what is no session, or no list of changes.
            for many in range(1, len(named) + 1 if call != attempted else 1):
                for names in itertools.combinations(named, many):
                    for odd in odd_values():
                        try:
                            call(**{**named, **{name: odd for name in names}})
                        except LevelError:
                            pass

    def test_the_leftmost_wrong_argument_goes_first(self):
        program = made()
        for call, named in calls_of(program):
            if len(named) < 2 or "program" not in named:
                continue
            names = list(named)
            for odd in odd_values():
                errors = []
                # All values from a parameter on are wrong; each one that is looked at goes ahead of those behind it.
                for at in range(len(names)):
                    try:
                        call(**{**named, **{name: odd for name in names[at:]}})
                        errors.append(None)
                    except LevelError as error:
                        errors.append((type(error).__name__, error.value is odd))
                self.assertEqual(errors[0], ("BadArgument", True))
                try:
                    call(**{**named, names[1]: odd})
                except LevelError as error:
                    # Names that are right alone can make a part wrong that stands behind them.
                    if call != demands or error.value is odd:
                        self.assertEqual(errors[1], (type(error).__name__, error.value is odd))

    def test_later_changes_of_what_was_given_change_nothing(self):
        stores = [STORE, (2, 2, 0)]
        relation = relation_of(made(), "t", stores)
        closed = Relation([(STORE, STORE)]).closed(stores)
        before = relation.pairs(), closed.pairs()
        stores.clear()
        self.assertEqual((relation.pairs(), closed.pairs()), before)

    def test_scripts_of_many_equal_programs(self):
        for seed in range(40):
            program = few_program(seed)
            other = read_program(write_program(program))
            self.assertEqual(program, other)
            found = places(program)
            for place in random.Random(seed).sample(found, min(10, len(found))):
                self.assertEqual(script_to(other, place), script_to(program, place))
            for told in (starved, pile_script):
                self.assertEqual(told(other), told(program))
            if program.cells() == ["c", "d"]:
                self.assertEqual(torn_script(other, "c", "d"), torn_script(program, "c", "d"))
            changed = program.with_guards({("main", 1): 1})
            self.assertEqual(difference(other, changed), difference(program, read_program(write_program(changed))))
            for procedure in program.procedures():
                self.assertEqual(left_script(other, procedure), left_script(program, procedure))
            for line in program.lines():
                self.assertEqual(starving(other, line), starving(program, line))
                self.assertEqual(numbered(other, ("served", line)), numbered(program, ("served", line)))
                for told in (wait_script, wait_ring):
                    self.assertEqual(told(other, line, {}), told(program, line, {}))
            for floor in range(program.levels + 1):
                self.assertEqual(endless_ring(other, floor, arrivals=True), endless_ring(program, floor, arrivals=True))
            for level in range(1, program.levels + 1):
                self.assertEqual(stretch_script(other, level), stretch_script(program, level))
                self.assertEqual(stretch_ring(other, level), stretch_ring(program, level))


if __name__ == "__main__":
    unittest.main()
