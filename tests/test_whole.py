"""[1]: each part of what is guaranteed, for the same programs of all sorts of rows, against a machine that goes through all moves."""

import random
import unittest

from maskedlevels.books import book_of, is_book
from maskedlevels.claims import against, holds, is_shown
from maskedlevels.counting import many_states
from maskedlevels.errors import AtRest
from maskedlevels.likeness import alike, difference
from maskedlevels.machine import Board, places_of, played
from maskedlevels.masks import keeps, left_script, masks_left
from maskedlevels.mends import Mend, is_met
from maskedlevels.notes import read_program, read_script, write_program, write_script
from maskedlevels.numbers import is_proved, numbered
from maskedlevels.pairs import is_torn, pair_sights
from maskedlevels.partbooks import is_part, part_of
from maskedlevels.piles import deepest, pile_script
from maskedlevels.reached import can_come, meetings, places, script_to
from maskedlevels.relations import outcomes, served
from maskedlevels.sessions import Attempt, Session
from maskedlevels.sheets import read_claim, read_place, read_table, write_claim, write_place, write_table
from maskedlevels.starving import endless, starved, starving
from maskedlevels.stretches import longest, stretch_ring, stretch_script
from maskedlevels.tables import is_table, table_of
from tests.rounds import Rings, Runs, bare, held_program
from tests.test_claims import claims_about, is_against
from tests.test_likeness import all_differences, like_program
from tests.test_mends import choices_of, is_met_by, program_behind, starved_by
from tests.test_pairs import pair_program
from tests.test_sights import look_program
from tests.walks import entries_in, few_program, in_order, places_in, walk
from tests.watching import sights_of

PROGRAMS = 25


class WholeTest(unittest.TestCase, Rings):
    @classmethod
    def setUpClass(cls):
        cls.programs = []
        for made in (few_program, held_program, look_program, pair_program):
            for seed in range(PROGRAMS):
                program = made(seed)
                runs = Runs(program, 250)
                if runs.moves is not None:
                    cls.programs.append((program, runs))

    def test_a_all_places_and_no_others(self):
        for program, runs in self.programs:
            found = places_in(entries_in(program, walk(program)))
            self.assertEqual(places(program), in_order(found))
            self.assertEqual(many_states(program), len({bare(state) for state in runs.moves}))
            for place in found:
                self.assertIs(can_come(program, place), True)

    def test_b_scripts_tables_and_numbered_books(self):
        for seed, (program, runs) in enumerate(self.programs):
            draw, table = random.Random(seed), table_of(program)
            fewest = places_in(entries_in(program, walk(program)))
            for place in draw.sample(in_order(fewest), min(10, len(fewest))):
                script = script_to(program, place)
                self.assertEqual((len(script), played(program, script).place()), (fewest[place], place))
                self.assertEqual(list(places_of(program, script))[-1], place)
            for claim in claims_about(draw, program, {entry: 0 for entry in runs.entries()}):
                script = against(program, claim)
                self.assertIs(holds(program, claim), script is None)
                self.assertIs(is_shown(program, table, claim), script is None)
                self.assertEqual(script is None, not any(is_against(program, claim, entry) for entry in runs.entries()))
            for wish in [("served", line) for line in program.lines()] + [("short", 1, 4), ("shallow", 3)]:
                pairs = numbered(program, wish)
                self.assertEqual(pairs is not None, is_met_by(runs, wish))
                self.assertTrue(pairs is None or is_proved(program, pairs, wish))

    def test_c_masks_meetings_lines_pairs_and_floors(self):
        told = 0
        for program, runs in self.programs:
            for procedure in program.procedures():
                pairs = runs.masks_left(procedure)
                self.assertEqual(masks_left(program, procedure), pairs)
                self.assertIs(keeps(program, procedure), all(one == other for one, other in pairs))
                self.assertEqual(left_script(program, procedure) is None, keeps(program, procedure))
            for section in program.sections():
                wanted = [place for place in places(program) if is_against(program, ("apart", section), (place[:1] + (place[5], place[3], place[4]), *place[1:5]))]
                self.assertEqual(meetings(program, section), wanted)
            for line in program.lines():
                self.assertEqual(line in starved(program), runs.starved(program.line_of(line)[0]))
                self.assertEqual(starving(program, line) is not None, line in starved(program))
            for arrivals in (False, True):
                self.assertEqual(endless(program, arrivals=arrivals), sorted(runs.ringed(0, arrivals)))
            cells = program.cells()[:2]
            sights = sights_of(program, *cells, 1500) if len(cells) == 2 else None
            if sights is not None:
                self.assertEqual(pair_sights(program, *cells), in_order(sights))
                self.assertIs(is_torn(program, *cells), any(sight[6] for sight in sights))
                told += len(sights)
        self.assertGreater(told, 20)

    def test_d_stretches_and_piles(self):
        for program, runs in self.programs:
            for level in range(1, program.levels + 1):
                many = runs.longest(level)
                self.assertEqual(longest(program, level), many)
                if many is None:
                    self.holds_ring(program, *stretch_ring(program, level), level, True)
                else:
                    self.assertEqual(stretch_script(program, level)[1], many)
            self.assertEqual(deepest(program), runs.deepest({}))
            script, words = pile_script(program)
            self.assertEqual([frame[0] for frame in played(program, script).frames()], words)
            self.assertEqual(len(words), deepest(program))

    def test_e_boards_agree_with_the_relations(self):
        for seed, (program, _) in enumerate(self.programs):
            draw = random.Random(seed)
            reached = places(program)
            # Each run of a board is one of the relations: from each service to its return.
            board, begun = Board(program), []
            for _ in range(60):
                if draw.random() < 0.4:
                    board.arrive(draw.choice(program.lines()))
                depth, store = len(board.frames()), board.store
                choices = [move[1] for move in board.moves() if move[0] == "row"] or [0]
                try:
                    kind, what = board.step(draw.choice(choices))
                except AtRest:
                    break
                if kind == "serve":
                    begun.append((depth, what, store))
                while begun and len(board.frames()) == begun[-1][0]:
                    _, line, first = begun.pop()
                    self.assertIn(board.store, served(program, line, first))
                self.assertIn(board.place(), reached)
            # Each place is had by lines that come in time.
            for place in draw.sample(reached, min(8, len(reached))):
                board = Board(program)
                for kind, what in script_to(program, place):
                    if kind == "serve":
                        board.arrive(what)
                    self.assertEqual(board.step(0 if kind == "serve" else what), (kind, what))
                self.assertEqual(board.place(), place)

    def test_e_each_end_is_had_by_a_board(self):
        for program, runs in self.programs:
            ends = {(state[0], state[1][0][1]) for state in runs.moves if runs.is_rest(state)}
            self.assertEqual(outcomes(program, (program.main, 0, program.first_store(), 0)), in_order(ends))

    def test_f_least_sets_of_guards_and_programs_that_are_alike(self):
        for seed, (program, runs) in enumerate(self.programs[::3]):
            draw = random.Random(seed)
            spots = [(name, point) for name in program.procedures() for point in range(len(program[name]) + 1)]
            menu = [(*draw.choice(spots), draw.randint(1, program.levels)) for _ in range(2)]
            claims = claims_about(draw, program, {entry: 0 for entry in runs.entries()})
            wishes = [claim for claim in claims if not is_met(program, claim)][:1] + [claim for claim in claims if is_met(program, claim)][:1]
            mending = []
            for choice in choices_of(len(menu)):
                other = Runs(program_behind(program, menu, choice))
                if all(is_met_by(other, wish) for wish in wishes) and starved_by(other) <= starved_by(runs):
                    mending.append(choice)
            mend = Mend(program, menu, wishes)
            self.assertEqual(list(mend.mending()), mending)
            self.assertEqual(mend.least(), [one for one in mending if not any(set(other) < set(one) for other in mending)])
        for seed in range(40):
            one, other = like_program(seed)
            unlike = all_differences(one, other)
            self.assertIs(alike(one, other), not unlike)
            self.assertTrue(difference(one, other) in unlike if unlike else difference(one, other) is None)

    def test_g_checkers_accept_the_right_papers_and_no_others(self):
        for seed, (program, _) in enumerate(self.programs):
            draw = random.Random(seed)
            table, book, names = table_of(program), book_of(program), [None, *program.lines()[:1]]
            part = part_of(program, names)
            for value, told in [(table, is_table), (book, is_book)]:
                self.assertIs(told(program, draw.sample(value, len(value))), True)
                gone = draw.choice(value)
                self.assertIs(told(program, [other for other in value if other != gone]), False)
            self.assertIs(is_part(program, names, part), True)
            gone = draw.choice(part[0])
            self.assertIs(is_part(program, names, ([page for page in part[0] if page != gone], part[1])), False)
            pairs = numbered(program, ("shallow", deepest(program)))
            self.assertIs(is_proved(program, pairs, ("shallow", deepest(program))), True)
            first = (None, program.first_store(), ((program.main, 0, 0),), program.first_store(), 0)
            for less in range(deepest(program)):
                bent = [(page, less if page == first else number) for page, number in pairs]
                self.assertIs(is_proved(program, bent, ("shallow", deepest(program))), False)

    def test_h_sessions_and_what_is_written(self):
        for seed, (program, runs) in enumerate(self.programs):
            draw, session = random.Random(seed), Session(program)
            spots = [(name, point) for name in program.procedures() for point in range(len(program[name]) + 1)]
            told = [program]
            for _ in range(5):
                session.guard(*draw.choice(spots), draw.randint(0, program.levels))
                told.append(session.guarded())
            with Attempt(session):
                session.guard(*draw.choice(spots), 1)
                session.undo()
                session.undo()
            self.assertEqual((len(session), session.guarded()), (5, told[-1]))
            with Attempt(session) as attempt:
                session.undo()
                attempt.hold_fast()
            for many in range(4, 0, -1):
                self.assertEqual((len(session), session.guarded()), (many, told[many]))
                session.undo()
            self.assertEqual(session.guarded(), program)
            self.assertEqual(read_program(write_program(told[-1])), told[-1])
            table, place = table_of(program), draw.choice(places(program))
            self.assertEqual(read_table(program, write_table(program, table)), table)
            self.assertEqual(read_place(program, write_place(program, place)), place)
            script = script_to(program, place)
            self.assertEqual(read_script(write_script(script)), script)
            for claim in claims_about(draw, program, {entry: 0 for entry in runs.entries()}):
                self.assertEqual(read_claim(program, write_claim(program, claim)), claim)


if __name__ == "__main__":
    unittest.main()
