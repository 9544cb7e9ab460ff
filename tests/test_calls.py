"""[2]: how the calls are made and what they tell: names, orders, doubles, and that nothing changes by them."""

import inspect
import itertools
import random
import unittest

from maskedlevels.books import book_of, is_book, lacking
from maskedlevels.claims import against, holds, is_shown
from maskedlevels.consoles import Console
from maskedlevels.counting import Scripts, many_states
from maskedlevels.errors import BadArgument, LevelError
from maskedlevels.guarded import Guarded
from maskedlevels.likeness import alike, difference
from maskedlevels.machine import Board, Machine, is_move, places_of, played
from maskedlevels.masks import keeps, left_script, masks_left
from maskedlevels.mends import Mend, is_met
from maskedlevels.notes import read_move, read_program, read_script, write_move, write_program, write_script
from maskedlevels.numbers import is_proved, numbered
from maskedlevels.pairs import is_torn, pair_sights, torn_script
from maskedlevels.partbooks import demands, is_part, joined_book, part_of, unkept, untouched
from maskedlevels.piles import deepest, pile_script
from maskedlevels.programs import Program, is_word
from maskedlevels.reached import can_come, masks_at, meetings, places, script_to, seen_at
from maskedlevels.relations import Relation, between, outcomes, relation_of, served
from maskedlevels.sessions import Attempt, Session, attempted
from maskedlevels.sheets import (
    read_claim, read_entry, read_place, read_table, write_claim, write_entry, write_place, write_table,
)
from maskedlevels.shortest import fewest_moves, how_many_shortest, shortest_scripts
from maskedlevels.sights import all_words, has_word, parting_word, show_alike, word_script
from maskedlevels.starving import endless, endless_ring, starved, starving
from maskedlevels.steps import can_serve, is_store, value_in
from maskedlevels.stretches import longest, stretch_ring, stretch_script
from maskedlevels.tables import is_table, joined, more_of, table_of
from maskedlevels.waits import longest_wait, wait_ring, wait_script
from tests.values import odd_values
from tests.walks import few_program

ROWS = {
    "main": [("any", "x"), ("keep",), ("open", "s"), ("look", "x"), ("call", "sub")] + [("keep",)] * 6
    + [("look", "y"), ("open", "s"), ("give",)],
    "sub": [("raise", 2), ("add", "y", 1)], "put": [("set", "x", 1), ("any", "y")], "flip": [("close", "s"), ("mask", 3)],
}
LINES = {"t": (1, "put"), "u": (3, "flip")}
GUARDS = {("main", 3): 1, ("main", 11): 2}
START = {"x": 2, "y": 0}
STORE = (0, 1, 1)
PLACE = ("main", 12, 0, (1, 1, 1), 2, 0)
MENU = [("main", 0, 1), ("main", 12, 3), ("sub", 0, 1)]
WISHES = [("apart", "s"), ("short", 1, 10), ("unseen", "main", 3, 1)]


# Scripts, and what is told in an order of its own.
UNORDERED = (
    "script_to", "against", "read_script", "left_script", "torn_script", "attempted", "least", "say", "can_serve",
    "places_of", "mending", "word_script", "all_words", "shortest_scripts", "each", "__getitem__", "untouched", "claims",
    "held_moves",
)
CLAIM = ("bound", "main", 1)
WORD = [("x", 0), ("y", 1)]


def made(turned=False):
    """A program; turned about, an equal one with the keys of all its dicts in another order."""
    parts = [dict(reversed(list(part.items()))) if turned else dict(part) for part in (START, ROWS, LINES, GUARDS)]
    start, rows, lines, guards = parts
    return Program(3, 3, start, {name: list(row) for name, row in rows.items()}, lines, guards=guards)


def calls_of_programs(program):
    """Each call of the modules for programs, their steps and machines."""
    parts = {"levels": 3, "size": 3, "start": START, "procedures": ROWS, "lines": LINES, "main": "main", "guards": GUARDS}
    return [
        (is_word, {"value": "word"}),
        (Program, parts),
        (program.line_of, {"line": "t"}),
        (program.guard_at, {"procedure": "main", "point": 3}),
        (program.with_guards, {"guards": GUARDS}),
        (is_store, {"program": program, "value": STORE}),
        (value_in, {"program": program, "store": STORE, "name": "s"}),
        (can_serve, {"program": program, "procedure": "main", "point": 3, "mask": 0}),
        (is_move, {"value": ("row", 1)}),
        (Machine, {"program": program}),
        (Machine(program).play, {"script": []}),
        (played, {"program": program, "script": [("row", 1), ("serve", "u")]}),
        (places_of, {"program": program, "script": [("row", 1), ("serve", "t"), ("row", 0)]}),
        (Board, {"program": program}),
        (Board(program).arrive, {"line": "t"}),
        (Mend(program, MENU, []).mending, {}),
    ]


def calls_of(program):
    """Each call of these modules with arguments by their names."""
    table, book = table_of(program), book_of(program)
    parts = [(names, part_of(program, names)) for names in (["t", None], ("u",))]
    return [
        (outcomes, {"program": program, "beginning": ("sub", 1, STORE, 1)}),
        (served, {"program": program, "line": "t", "store": STORE}),
        (between, {"program": program, "level": 0, "store": STORE}),
        (relation_of, {"program": program, "line": "u", "stores": [STORE, (2, 2, 0), STORE]}),
        (Relation, {"pairs": [((1,), (2,)), ((1,), (-2, 10)), ((1,), (2,))]}),
        (Relation([((1,), (2,))]), {"store": (1,)}),
        (Relation([((1,), (2,))]).closed, {"stores": ((3,), ())}),
        (Relation.same, {"stores": [(3,), (), (3,)]}),
        (places, {"program": program}),
        (can_come, {"program": program, "value": PLACE}),
        (seen_at, {"program": program, "procedure": "main", "point": 3}),
        (meetings, {"program": program, "section": "s"}),
        (masks_at, {"program": program, "procedure": "sub", "point": 1}),
        (script_to, {"program": program, "place": PLACE}),
        (table_of, {"program": program}),
        (is_table, {"program": program, "value": table}),
        (more_of, {"program": program, "table": tuple(table[5:] + table[5:9])}),
        (joined, {"program": program}),
        (holds, {"program": program, "claim": ("bound", "sub", 2)}),
        (is_shown, {"program": program, "value": table, "claim": ("clean", "put")}),
        (against, {"program": program, "claim": ("apart", "s")}),
        (write_move, {"move": ("row", 3)}),
        (read_move, {"word": "serve:t"}),
        (write_script, {"script": [("row", 3), ("serve", "t")]}),
        (read_script, {"text": "row:3 serve:t"}),
        (write_program, {"program": program}),
        (read_program, {"note": write_program(program)}),
        (masks_left, {"program": program, "procedure": "sub"}),
        (keeps, {"program": program, "procedure": "sub"}),
        (left_script, {"program": program, "procedure": "sub"}),
        (starved, {"program": program}),
        (starving, {"program": program, "line": "t"}),
        (endless, {"program": program, "arrivals": True}),
        (endless_ring, {"program": program, "floor": 0, "arrivals": False}),
        (longest, {"program": program, "level": 1}),
        (stretch_ring, {"program": program, "level": 3}),
        (stretch_script, {"program": program, "level": 2}),
        (deepest, {"program": program, "sizes": {"sub": 3, "flip": 0}}),
        (pile_script, {"program": program, "sizes": {"put": 1000}}),
        (is_met, {"program": program, "wish": ("short", 1, 9)}),
        (Mend(program, MENU, WISHES).behind, {"choice": (0, 2)}),
        (Mend(program, MENU, WISHES).unmet, {"choice": (1,)}),
        (Mend(program, MENU, WISHES).least, {}),
        (alike, {"one": program, "other": made()}),
        (difference, {"one": program, "other": program.with_guards({("main", 0): 3})}),
        (attempted, {"session": Session(program), "changes": list(MENU), "fast": False}),
        (Console(program).say, {"row": "guards"}),
        (pair_sights, {"program": program, "one": "x", "other": "y"}),
        (is_torn, {"program": program, "one": "x", "other": "y"}),
        (torn_script, {"program": program, "one": "x", "other": "y"}),
        (book_of, {"program": program}),
        (is_book, {"program": program, "value": book}),
        (lacking, {"program": program, "pages": tuple(book[5:] + book[5:9])}),
        (numbered, {"program": program, "wish": ("shallow", 5)}),
        (is_proved, {"program": program, "value": numbered(program, ("served", "u")), "wish": ("served", "u")}),
        (part_of, {"program": program, "names": [None, "u"]}),
        (is_part, {"program": program, "names": ("u",), "value": parts[1][1]}),
        (demands, {"program": program, "names": ["t", None], "part": parts[0][1]}),
        (unkept, {"program": program, "parts": parts[1:]}),
        (joined_book, {"program": program, "parts": parts}),
        (untouched, {"program": program, "other": program.with_guards({})}),
        (longest_wait, {"program": program, "line": "t", "allowance": {"u": 2}}),
        (wait_script, {"program": program, "line": "t", "allowance": {"u": 1}}),
        (wait_ring, {"program": program, "line": "u", "allowance": {}}),
        *calls_of_programs(program),
        (has_word, {"program": program, "word": WORD}),
        (word_script, {"program": program, "word": WORD}),
        (all_words, {"program": program, "many": 2}),
        (show_alike, {"one": program, "other": program.with_guards({})}),
        (parting_word, {"one": program, "other": Program(1, 2, {"x": 0}, {"main": []}, {})}),
        (shortest_scripts, {"program": program, "claim": CLAIM}),
        (how_many_shortest, {"program": program, "claim": ("apart", "s")}),
        (fewest_moves, {"program": program, "claim": CLAIM}),
        (many_states, {"program": program}),
        (Scripts(program, 3).number_of, {"script": [("row", 2), ("serve", "t"), ("serve", "u")]}),
        (Scripts(program, 3).__getitem__, {"number": 4}),
        (Scripts(program, 2).each, {}),
        (Guarded(program, CLAIM, CLAIM).claims, {}),
        (Guarded(program, ("bound", "put", 0)).held_moves, {}),
        (Guarded(program, CLAIM).play, {"script": []}),
        (write_place, {"program": program, "place": PLACE}),
        (write_entry, {"program": program, "entry": table[3]}),
        (write_table, {"program": program, "table": table}),
        (write_claim, {"program": program, "claim": CLAIM}),
        (read_place, {"program": program, "word": write_place(program, PLACE)}),
        (read_entry, {"program": program, "word": write_entry(program, table[3])}),
        (read_table, {"program": program, "text": write_table(program, table[:9])}),
        (read_claim, {"program": program, "text": "bound main 1"}),
    ]


def by_position(call, named):
    """Makes a call with all arguments by position that can be given so."""
    kinds = inspect.signature(call).parameters
    behind = {name: value for name, value in named.items() if kinds[name].kind == inspect.Parameter.KEYWORD_ONLY}
    return call(*[value for name, value in named.items() if name not in behind], **behind)


def told_by(error, value):
    """The name of an error, and whether it keeps this very value."""
    return (type(error).__name__, any(told is value for told in vars(error).values()))


def kept(value):
    """A copy of lists, tuples and dicts, also of those within them."""
    if type(value) in (list, tuple):
        return type(value)([kept(part) for part in value])
    if type(value) is dict:
        return {name: kept(part) for name, part in value.items()}
    return value


def plain(value):
    """What is told as a value that can be kept and compared."""
    if isinstance(value, Machine):
        return (type(value), value.place(), value.frames(), value.moves())
    if inspect.isgenerator(value):
        return list(value)
    return value.pairs() if isinstance(value, Relation) else value


class CallsTest(unittest.TestCase):
    def test_each_call_by_the_names_of_its_parameters_in_any_order(self):
        for call, named in calls_of(made()):
            wanted = plain(by_position(call, named))
            # Of seven parameters the orders are very many.
            for order in itertools.islice(itertools.permutations(named), 0, None, 1 if len(named) < 5 else 97):
                self.assertEqual(plain(call(**{name: named[name] for name in order})), wanted)

    def test_parameters_have_the_names_of_the_interface(self):
        wanted = {
            outcomes: "program beginning", served: "program line store", between: "program level store",
            relation_of: "program line stores", places: "program", can_come: "program value", seen_at: "program procedure point",
            meetings: "program section", masks_at: "program procedure point", script_to: "program place", table_of: "program",
            is_table: "program value", more_of: "program table", joined: "program tables", holds: "program claim",
            is_shown: "program value claim", against: "program claim", write_move: "move", read_move: "word",
            write_script: "script", read_script: "text", write_program: "program", read_program: "note",
            masks_left: "program procedure", keeps: "program procedure", left_script: "program procedure", starved: "program",
            starving: "program line", endless: "program arrivals", endless_ring: "program floor arrivals",
            longest: "program level", stretch_ring: "program level", stretch_script: "program level",
            deepest: "program sizes", pile_script: "program sizes", is_met: "program wish", Mend: "program menu wishes",
            Mend(made(), [], []).behind: "choice", Mend(made(), [], []).unmet: "choice", Mend(made(), [], []).least: "",
            Mend(made(), [], []).mending: "", alike: "one other", difference: "one other", Session: "program",
            Session(made()).guard: "procedure point level", Session(made()).undo: "", attempted: "session changes fast",
            Attempt: "session", Console: "program", Console(made()).say: "row", pair_sights: "program one other",
            is_torn: "program one other", torn_script: "program one other", book_of: "program", is_book: "program value",
            lacking: "program pages", numbered: "program wish", is_proved: "program value wish", part_of: "program names",
            is_part: "program names value", demands: "program names part", unkept: "program parts",
            joined_book: "program parts", untouched: "program other", longest_wait: "program line allowance",
            wait_script: "program line allowance", wait_ring: "program line allowance", has_word: "program word",
            word_script: "program word", all_words: "program many", show_alike: "one other", parting_word: "one other",
            shortest_scripts: "program claim", how_many_shortest: "program claim", fewest_moves: "program claim",
            many_states: "program", Scripts: "program moves", Scripts(made(), 1).number_of: "script", Scripts(made(), 1).each: "",
            Guarded: "program claims", Guarded(made()).__call__: "move", Guarded(made()).claims: "", Guarded(made()).held_moves: "",
            Guarded(made()).play: "script", write_place: "program place", write_entry: "program entry", write_table: "program table",
            write_claim: "program claim", read_place: "program word", read_entry: "program word", read_table: "program text",
            read_claim: "program text", is_word: "value", Program: "levels size start procedures lines main guards",
            made().line_of: "line", made().guard_at: "procedure point", made().with_guards: "guards", is_store: "program value",
            value_in: "program store name", can_serve: "program procedure point mask", is_move: "value", Machine: "program",
            Machine(made()).__call__: "move", Machine(made()).play: "script", Machine(made()).copied: "", played: "program script",
            places_of: "program script", Board: "program", Board(made()).arrive: "line", Board(made()).step: "choice",
            Relation: "pairs", Relation.same: "stores", Relation([]).closed: "stores", Relation([]).__call__: "store",
        }
        for call, names in wanted.items():
            self.assertEqual(list(inspect.signature(call).parameters), names.split())

    def test_lists_are_in_the_order_of_texts_without_doubles(self):
        figures = 0
        for call, named in calls_of(made()):
            told = plain(call(**named))
            if type(told) is list and getattr(call, "__name__", "") not in UNORDERED:
                order = int if told and type(told[0]) is int else str
                self.assertEqual(told, sorted(set(told), key=order))
                # What has None in it has no other order.
                if "None" not in str(told):
                    figures += told != sorted(told)
        self.assertGreaterEqual(figures, 2)

    def test_the_same_call_tells_the_same_again(self):
        program, other = made(), made(turned=True)
        self.assertEqual(program, other)
        for (call, named), (again, renamed) in zip(calls_of(program), calls_of(other)):
            wanted = plain(call(**named))
            self.assertEqual(plain(call(**named)), wanted)
            self.assertEqual(plain(again(**renamed)), wanted)
        for place in places(program):
            script = script_to(program, place)
            self.assertEqual(script_to(other, place), script)
            self.assertEqual(played(program, script).place(), place)

    def test_what_is_told_belongs_to_the_caller(self):
        program = made()
        for call, named in calls_of(program):
            told = call(**named)
            if type(told) is list:
                before = list(told)
                told.append(None)
                told.reverse()
                self.assertEqual(call(**named), before)
                told.clear()
                self.assertEqual(call(**named), before)
            if type(told) is tuple:
                before = [list(part) if type(part) is list else part for part in told]
                for part in told:
                    if type(part) is list:
                        part.append(None)
                        part.reverse()
                self.assertEqual([list(part) if type(part) is list else part for part in call(**named)], before)
        self.assertEqual(program, made())

    def test_no_call_changes_what_it_was_given(self):
        program = made()
        for call, named in calls_of(program):
            before = kept(named)
            plain(call(**named))
            self.assertEqual(named, before)
        self.assertEqual(program, made())

    def test_after_an_error_everything_is_as_before(self):
        program = made()
        calls = calls_of(program)
        wanted = [plain(call(**named)) for call, named in calls]
        for call, named in calls:
            for name in [name for name in named if call != attempted]:
                for odd in odd_values():
                    try:
                        plain(call(**{**named, name: odd}))
                    except LevelError:
                        pass
        self.assertEqual([plain(call(**named)) for call, named in calls], wanted)
        self.assertEqual(program, made())

    def test_any_value_in_any_place_raises_an_error_of_the_package_or_none(self):
        for call, named in calls_of(made()):
            # Nothing is said of what is no session, or no list of changes.
            for many in range(1, len(named) + 1 if call != attempted else 1):
                for names in itertools.combinations(named, many):
                    for odd in odd_values():
                        try:
                            plain(call(**{**named, **{name: odd for name in names}}))
                        except LevelError:
                            pass

    def test_the_leftmost_wrong_argument_goes_first(self):
        program = made()
        for call, named in calls_of(program):
            if len(named) < 2 or "program" not in named:
                continue
            names = list(named)
            for odd in odd_values():
                errors = []
                # All values from a parameter on are wrong; each one that is looked at goes ahead of those behind it.
                for at in range(len(names)):
                    try:
                        plain(call(**{**named, **{name: odd for name in names[at:]}}))
                        errors.append(None)
                    except LevelError as error:
                        errors.append(told_by(error, odd))
                self.assertEqual(errors[0], ("BadArgument", True))
                try:
                    plain(call(**{**named, names[1]: odd}))
                except LevelError as error:
                    # Names that are right alone can make a part wrong that stands behind them.
                    if call != demands or told_by(error, odd)[1]:
                        self.assertEqual(errors[1], told_by(error, odd))

    def test_what_is_no_program(self):
        many = 0
        for call, named in calls_of(made()):
            for name in ("program", "one", "other"):
                if not isinstance(named.get(name), Program):
                    continue
                many += 1
                for odd in odd_values():
                    with self.assertRaises(BadArgument) as caught:
                        plain(call(**{**named, name: odd}))
                    self.assertIs(caught.exception.value, odd)
        self.assertGreater(many, 75)

    def test_generators_raise_and_look_when_their_first_value_is_asked_for(self):
        many = 0
        for call, named in calls_of(made()):
            if inspect.isgenerator(call(**named)):
                many += 1
                for name in named:
                    for odd in odd_values():
                        told = call(**{**named, name: odd})
                        self.assertTrue(inspect.isgenerator(told))
        self.assertEqual(many, 5)
        script = [("row", 1)]
        told = places_of(made(), script)
        script.append(("serve", "u"))
        self.assertEqual(next(told), ("main", 0, 0, (2, 0, 0), 0, 0))
        # Behind its first value the script is its own.
        script.clear()
        self.assertEqual([place[:2] for place in told], [("main", 1), ("flip", 0)])

    def test_what_is_yielded_belongs_to_the_caller(self):
        for call, named in calls_of(made()):
            if inspect.isgenerator(call(**named)):
                wanted, found = list(call(**named)), []
                self.assertGreater(len(wanted), 1)
                for value in call(**named):
                    found.append(kept(value))
                    if type(value) is list:
                        value.reverse()
                        value.append(None)
                    for part in named.values():
                        if type(part) is list:
                            part.append(None)
                self.assertEqual(found, wanted)

    def test_later_changes_of_what_was_given_change_nothing(self):
        stores = [STORE, (2, 2, 0)]
        relation = relation_of(made(), "t", stores)
        closed = Relation([(STORE, STORE)]).closed(stores)
        before = relation.pairs(), closed.pairs()
        stores.clear()
        self.assertEqual((relation.pairs(), closed.pairs()), before)

    def test_scripts_of_many_equal_programs(self):
        for seed in range(40):
            program = few_program(seed)
            other = read_program(write_program(program))
            self.assertEqual(program, other)
            found = places(program)
            for place in random.Random(seed).sample(found, min(10, len(found))):
                self.assertEqual(script_to(other, place), script_to(program, place))
            for told in (starved, pile_script):
                self.assertEqual(told(other), told(program))
            if program.cells() == ["c", "d"]:
                self.assertEqual(torn_script(other, "c", "d"), torn_script(program, "c", "d"))
            changed = program.with_guards({("main", 1): 1})
            self.assertEqual(difference(other, changed), difference(program, read_program(write_program(changed))))
            for procedure in program.procedures():
                self.assertEqual(left_script(other, procedure), left_script(program, procedure))
            for line in program.lines():
                self.assertEqual(starving(other, line), starving(program, line))
                self.assertEqual(numbered(other, ("served", line)), numbered(program, ("served", line)))
                for told in (wait_script, wait_ring):
                    self.assertEqual(told(other, line, {}), told(program, line, {}))
            for floor in range(program.levels + 1):
                self.assertEqual(endless_ring(other, floor, arrivals=True), endless_ring(program, floor, arrivals=True))
            for level in range(1, program.levels + 1):
                self.assertEqual(stretch_script(other, level), stretch_script(program, level))
                self.assertEqual(stretch_ring(other, level), stretch_ring(program, level))


if __name__ == "__main__":
    unittest.main()
