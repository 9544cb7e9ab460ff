"""[28], [1]: words of runs, held against all sets of states of a program."""

import random
import unittest

from maskedlevels.errors import BadArgument, BadNumber
from maskedlevels.machine import played
from maskedlevels.programs import Program
from maskedlevels.sights import all_words, has_word, parting_word, show_alike, word_script
from tests.rounds import Runs, held_program, run_programs
from tests.scripted import Shown, fewest_to_word, word_of
from tests.values import Refusals, odd_values, small_program
from tests.walks import few_program

PROGRAMS = 40


def look_row(draw, size, names, end):
    """A row that looks, or changes what is seen."""
    cell, value, point = draw.choice("cd"), draw.randrange(size), draw.randrange(end + 1)
    rows = [("look", cell)] * 4 + [("set", cell, value), ("add", cell, 1), ("any", cell), ("if", cell, value, point)]
    rows.extend([("either", point), ("go", point), ("raise", 1), ("mask", 0), *[("call", name) for name in names]])
    return draw.choice(rows)


def look_program(seed):
    """A program that looks much, also in its lines and in what they call."""
    draw = random.Random(seed)
    size, names = draw.randint(2, 3), ["main", "work", "put", "more"]
    procedures = {}
    for at, name in enumerate(names):
        end = draw.randint(2, 4) if name == "main" else draw.randint(1, 3)
        procedures[name] = [look_row(draw, size, names[at + 1:], end) for _ in range(end)]
    lines = {"t": (1, "put"), "u": (2, draw.choice(["put", "more"]))}
    guards = {(name, draw.randint(0, len(procedures[name]))): draw.randint(1, 2) for name in names if draw.random() < 0.5}
    return Program(2, size, {"c": 0, "d": 0}, procedures, lines, guards=guards)


def shown_programs(many):
    """Programs with few states, each with its words."""
    for made, times, most in [(look_program, 3, 500), (few_program, 1, 250), (held_program, 1, 250)]:
        for program, runs in run_programs(times * many, made, most):
            yield program, Shown(program, runs)


def parting_of(one, other, most=300):
    """The length of a shortest word that just one of two programs has, None for none, -1 if it takes too long."""
    layer, seen, length = [(one.start, other.start)], set(), 0
    while layer:
        length += 1
        behind = []
        for pair in layer:
            told, again = one.behind(pair[0]), other.behind(pair[1])
            if set(told) != set(again):
                return length
            behind.extend((told[sight], again[sight]) for sight in told)
        layer = [pair for pair in set(behind) if pair not in seen]
        seen.update(layer)
        if len(seen) > most:
            return -1
    return None


def shown_of(program):
    """The words of a program, None if it has too many states."""
    runs = Runs(program, 300)
    return None if runs.moves is None else Shown(program, runs)


class WalkedTest(unittest.TestCase):
    """Each answer for many programs, against all states that their moves lead to."""

    @classmethod
    def setUpClass(cls):
        cls.programs = list(shown_programs(PROGRAMS))

    def test_all_words(self):
        counts = {}
        for program, shown in self.programs:
            for many in range(4):
                wanted = [word for length in range(many + 1) for word, _ in shown.words(length)]
                self.assertEqual(list(all_words(program, many)), wanted)
            counts[min(len(wanted), 5)] = counts.get(min(len(wanted), 5), 0) + 1
        self.assertGreater(counts[5], 30, counts)

    def test_up_to_six_sights(self):
        for program, shown in self.programs[::5]:
            wanted = [word for length in range(7) for word, _ in shown.words(length)]
            if len(wanted) < 1500:
                self.assertEqual(list(all_words(program, 6)), wanted)

    def test_words_that_runs_have_and_scripts_with_them(self):
        lengths = {}
        for seed, (program, shown) in enumerate(self.programs):
            draw = random.Random(seed)
            words = [word for word, _ in shown.words(1) + shown.words(2) + shown.words(3)]
            for word in draw.sample(words, min(5, len(words))):
                self.assertIs(has_word(program, word), True)
                self.assertIs(has_word(program, tuple(word)), True)
                script = word_script(program, word)
                self.assertEqual(word_of(program, script), word)
                self.assertEqual(word_script(program, tuple(word)), script)
                fewest = fewest_to_word(program, word)
                if fewest >= 0:
                    self.assertEqual(len(script), fewest)
                    lengths[len(word)] = lengths.get(len(word), 0) + 1
        self.assertGreater(min(lengths.values()), 20, lengths)

    def test_bent_words(self):
        counts = {True: 0, False: 0}
        for seed, (program, shown) in enumerate(self.programs):
            draw = random.Random(seed)
            words = [word for word, _ in shown.words(1) + shown.words(2) + shown.words(3)]
            sights = [(cell, value) for cell in program.cells() for value in range(program.size)]
            for word in draw.sample(words, min(5, len(words))):
                at = draw.randrange(len(word))
                other = draw.choice(sights)
                for bent in (word[:at] + [other] + word[at + 1:], word + [other], word[:at] + word[at + 1:], [other] + word, word[::-1]):
                    if len(bent) < 4:
                        wanted = bent in [told for told, _ in shown.words(len(bent))]
                        counts[wanted] += 1
                        self.assertIs(has_word(program, bent), wanted)
                        self.assertEqual(word_script(program, bent) is not None, wanted)
        self.assertGreater(min(counts.values()), 100, counts)

    def test_programs_that_show_alike_and_words_that_part(self):
        counts = {}
        for seed, (program, shown) in enumerate(self.programs):
            draw = random.Random(seed)
            others = [self.programs[draw.randrange(len(self.programs))][0], program.with_guards({})]
            name = draw.choice(program.procedures())
            others.append(program.with_guards({**program.guards(), (name, draw.randint(0, len(program[name]))): draw.randint(1, program.levels)}))
            for other in others:
                again = shown_of(other)
                length = -1 if again is None else parting_of(shown, again)
                if length != -1:
                    self.holds_parting((program, shown), (other, again), length)
                    self.holds_parting((other, again), (program, shown), length)
                    sort = length if length is None or length < 4 else 4
                    counts[sort] = counts.get(sort, 0) + 1
        self.assertEqual(len(counts), 5)
        self.assertGreater(min(counts.values()), 1, counts)

    def holds_parting(self, one, other, length):
        """Holds both calls against the length of a shortest word."""
        pair = parting_word(one[0], other[0])
        self.assertIs(show_alike(one[0], other[0]), length is None)
        if length is None:
            self.assertIsNone(pair)
            return
        number, word = pair
        self.assertEqual((type(pair), type(number), type(word), len(word)), (tuple, int, list, length))
        had = [has_word(program, word) for program, _ in (one, other)]
        self.assertEqual(had, [number == 0, number == 1])


class WordsTest(unittest.TestCase):
    def made(self, rows, lines=None, size=2, start=None, guards=None):
        return Program(2, size, {"c": 0, "d": 0} if start is None else start, rows, {} if lines is None else lines, guards=guards)

    def test_the_empty_word(self):
        for seed in range(20):
            program = few_program(seed)
            for word in ([], ()):
                self.assertIs(has_word(program, word), True)
                self.assertEqual(word_script(program, word), [])
            self.assertEqual(list(all_words(program, 0)), [[]])

    def test_no_looks_at_all(self):
        program = self.made({"main": [("any", "c"), ("go", 0)]})
        self.assertEqual(list(all_words(program, 6)), [[]])
        self.assertIs(has_word(program, [("c", 0)]), False)
        self.assertIsNone(word_script(program, [("c", 0)]))

    def test_cells_and_values_that_the_program_has_not(self):
        program = self.made({"main": [("look", "c"), ("open", "s"), ("look", "d")]})
        self.assertIs(has_word(program, [("c", 0), ("d", 0)]), True)
        for word in [[("e", 0)], [("c", 2)], [("c", -1)], [("c", 10 ** 20)], [("s", 0)], [("s", 1)], [("main", 0)], [("c", 0), ("zz", 5)], [("d", 0)]]:
            self.assertIs(has_word(program, word), False)
            self.assertIs(has_word(program, tuple(word)), False)
            self.assertIsNone(word_script(program, word))

    def test_each_beginning_of_a_word_is_one(self):
        program = self.made({"main": [("look", "c"), ("look", "d"), ("look", "c")]})
        words = [[], [("c", 0)], [("c", 0), ("d", 0)], [("c", 0), ("d", 0), ("c", 0)]]
        self.assertEqual(list(all_words(program, 6)), words)
        self.assertEqual(list(all_words(program, 2)), words[:3])
        self.assertEqual([len(word_script(program, word)) for word in words], [0, 1, 2, 3])
        self.assertIs(has_word(program, words[3] + [("c", 0)]), False)

    def test_looks_of_lines_and_of_what_they_call(self):
        rows = {"main": [("look", "c")], "put": [("call", "sub"), ("look", "d")], "sub": [("add", "c", 1), ("look", "c")]}
        program = self.made(rows, {"t": (1, "put")})
        self.assertIs(has_word(program, [("c", 1), ("d", 0), ("c", 1)]), True)
        self.assertIs(has_word(program, [("c", 1), ("c", 1)]), False)
        self.assertEqual(len(word_script(program, [("c", 1), ("d", 0), ("c", 1)])), 8)
        self.assertEqual(word_script(program, [("c", 1), ("d", 0)]), [("serve", "t")] + [("row", 0)] * 5)
        shown = shown_of(program)
        self.assertEqual(list(all_words(program, 4)), [word for length in range(5) for word, _ in shown.words(length)])

    def test_a_line_between_two_looks(self):
        program = self.made({"main": [("look", "c"), ("look", "c")], "put": [("set", "c", 1)]}, {"t": (1, "put")})
        self.assertEqual(list(all_words(program, 6))[3:], [[("c", 0), ("c", 0)], [("c", 0), ("c", 1)], [("c", 1), ("c", 1)]])
        self.assertEqual(word_script(program, [("c", 0), ("c", 1)]), [("row", 0), ("serve", "t"), ("row", 0), ("row", 0), ("row", 0)])

    def test_the_order_of_texts(self):
        program = Program(1, 3, {"b": 0, "ab": 0, "a": 0}, {"main": [("any", "a"), ("any", "b"), ("either", 4), ("look", "b"), ("either", 6), ("look", "a"), ("look", "ab")]}, {})
        words = list(all_words(program, 6))
        self.assertEqual(words, sorted(words, key=lambda word: (len(word), [str(sight) for sight in word])))
        self.assertEqual([word[0][0] for word in words[1:8]], ["a"] * 3 + ["ab"] + ["b"] * 3)

    def test_words_without_end(self):
        program = self.made({"main": [("add", "c", 1), ("look", "c"), ("go", 0)]})
        word = [("c", (at + 1) % 2) for at in range(300)]
        self.assertIs(has_word(program, word), True)
        self.assertEqual(len(word_script(program, word)), 3 * 300 - 1)
        self.assertIs(has_word(program, word[:299] + [("c", 1)]), False)
        self.assertEqual(list(all_words(program, 6)), [word[:many] for many in range(7)])

    def test_yielded_words_can_be_changed(self):
        program = self.made({"main": [("any", "c"), ("look", "c"), ("any", "c"), ("look", "c")]})
        wanted = list(all_words(program, 2))
        found = []
        for word in all_words(program, 2):
            found.append(list(word))
            word.append(None)
            word.reverse()
        self.assertEqual(found, wanted)

    def test_a_script_is_played_by_a_machine(self):
        program = look_program(3)
        for word in all_words(program, 3):
            self.assertIsNotNone(played(program, word_script(program, word)))


class AlikeTest(unittest.TestCase):
    def setUp(self):
        self.rows = {"main": [("look", "c"), ("look", "d")], "put": [("set", "c", 1)]}
        self.program = self.made(self.rows)

    def made(self, rows, **changes):
        parts = {"levels": 2, "size": 2, "start": {"c": 0, "d": 0}, "procedures": rows, "lines": {"t": (1, "put")}}
        parts.update(changes)
        return Program(**parts)

    def parts_by(self, other, number, word):
        """Holds a shortest word, both ways about."""
        self.assertEqual(parting_word(self.program, other), (number, word))
        self.assertEqual(parting_word(one=other, other=self.program), (1 - number, word))
        self.assertIs(show_alike(self.program, other), False)
        self.assertIs(show_alike(other=self.program, one=other), False)

    def is_alike(self, other):
        self.assertIsNone(parting_word(self.program, other))
        self.assertIsNone(parting_word(other, self.program))
        self.assertIs(show_alike(self.program, other), True)

    def test_with_itself(self):
        self.is_alike(self.program)
        self.is_alike(self.made(self.rows))
        for seed in range(20):
            self.assertIs(show_alike(look_program(seed), look_program(seed)), True)

    def test_rows_that_show_nothing(self):
        self.is_alike(self.made({**self.rows, "main": [("keep",), ("look", "c"), ("any", "d"), ("set", "d", 0), ("look", "d"), ("raise", 1)]}, levels=1))
        self.is_alike(self.made({**self.rows, "put": [("set", "c", 0), ("set", "c", 1), ("any", "c"), ("set", "c", 1)]}))
        self.is_alike(self.made({**self.rows, "main": [("call", "sub"), ("look", "d")], "sub": [("look", "c")]}))

    def test_a_row_more_that_shows(self):
        self.parts_by(self.made({**self.rows, "main": [("look", "c"), ("look", "d"), ("look", "d")]}), 1, [("c", 0), ("d", 0), ("d", 0)])
        self.parts_by(self.made({**self.rows, "main": [("look", "c")]}), 0, [("c", 0), ("d", 0)])

    def test_guards(self):
        self.is_alike(self.program.with_guards({("main", 1): 2, ("main", 2): 1}))
        self.parts_by(self.program.with_guards({("main", 0): 1}), 0, [("c", 1)])

    def test_other_cells_and_values(self):
        self.is_alike(self.made(self.rows, start={"c": 0, "d": 0, "e": 1}, size=3))
        self.parts_by(self.made(self.rows, start={"c": 0, "d": 1}), 0, [("c", 0), ("d", 0)])
        other = self.made({"main": [("look", "c"), ("look", "e")], "put": [("set", "c", 1)]}, start={"c": 0, "e": 0})
        self.parts_by(other, 0, [("c", 0), ("d", 0)])
        self.is_alike(self.made({**self.rows, "wait": []}, lines={"other": (2, "put"), "idle": (1, "wait")}, levels=3))

    def test_words_that_part_late(self):
        rows = [("look", "c")] + [("any", "d")] + [("look", "d")] * 6
        self.program = self.made({"main": rows, "put": []})
        self.parts_by(self.made({"main": rows + [("look", "c")], "put": []}), 1, [("c", 0)] + [("d", 0)] * 6 + [("c", 0)])
        count = [("look", "c"), ("add", "c", 1), ("if", "c", 0, 4), ("go", 0), ("add", "d", 1), ("if", "d", 0, 7), ("go", 0), ("look", "d")]
        start = {"c": 0, "d": 0}
        self.program = self.made({"main": count, "put": []}, size=5, start=start)
        other = self.made({"main": count[:7] + [("look", "c")], "put": []}, size=5, start=start)
        number, word = parting_word(self.program, other)
        self.assertEqual((number in (0, 1), len(word)), (True, 26))
        self.assertEqual([has_word(self.program, word), has_word(other, word)], [number == 0, number == 1])

    def test_words_that_part_never_though_they_never_end(self):
        one = self.made({"main": [("look", "c"), ("go", 0)], "put": [("add", "c", 1)]})
        other = self.made({"main": [("look", "c"), ("look", "c"), ("go", 1)], "put": [("add", "c", 1), ("keep",), ("look", "d")][:2]})
        self.program = one
        self.is_alike(other)
        self.parts_by(self.made({"main": [("look", "c"), ("go", 0)], "put": []}), 0, [("c", 1)])

    def test_the_number_of_a_word_that_both_have_in_another_order(self):
        other = self.made({**self.rows, "main": [("look", "d"), ("look", "c")]})
        number, word = parting_word(self.program, other)
        self.assertIn((number, word), [(0, [("c", 0)]), (0, [("c", 1)]), (1, [("d", 0)])])
        self.assertEqual(parting_word(self.program, other), (number, word))


class RefusedTest(unittest.TestCase, Refusals):
    def test_words(self):
        program = small_program()
        wrong = [
            [("x",)], [("x", 0, 0)], [["x", 0]], ["x"], "x", [("x", True)], [("x", 0.0)], [("x", "0")], [("X", 0)], [("", 0)], [("abcdefghi", 0)],
            [(0, "x")], [("x", 0), None], {("x", 0): 1}, {("x", 0)}, ("x", 0), iter([]), None,
        ]
        wrong.extend([odd] for odd in odd_values())
        wrong.extend([("x", odd)] for odd in odd_values() if type(odd) is not int)
        wrong.extend([(odd, 0)] for odd in odd_values())
        # A list of a move of a row alone is one of a sight.
        wrong.extend(odd for odd in odd_values() if str(odd) not in ("[]", "()", "[('row', 0)]"))
        for told in (has_word, word_script):
            for value in odd_values():
                self.refuses(BadArgument, value, told, value, [])
                self.refuses(BadArgument, value, told, value, None)
            for value in wrong:
                self.refuses(BadArgument, value, told, program, value)
            self.assertIn(told(program, [("row", 0), ("x", -5)]), (False, None))

    def test_all_words_raises_when_its_first_value_is_asked_for(self):
        program = small_program()
        for value in odd_values():
            for many in (0, None):
                words = all_words(value, many)
                self.refuses(BadArgument, value, next, words)
        for value in odd_values() + [7, -1, True, False, "1", 1.0]:
            words = all_words(program, value)
            self.refuses(BadNumber, value, next, words)
        for many in (0, 6):
            self.assertEqual(next(all_words(many=many, program=program)), [])

    def test_programs(self):
        program = small_program()
        for told in (show_alike, parting_word):
            for value in odd_values():
                self.refuses(BadArgument, value, told, value, program)
                self.refuses(BadArgument, value, told, value, None)
                self.refuses(BadArgument, value, told, program, value)

    def test_what_was_given_stays(self):
        program, word = small_program(), [("x", 0), ("x", 1)]
        has_word(program, word)
        word_script(program, word)
        self.assertEqual(word, [("x", 0), ("x", 1)])
        pair = parting_word(look_program(1), look_program(2))
        before = (pair[0], list(pair[1]))
        pair[1].clear()
        self.assertEqual(parting_word(look_program(1), look_program(2)), before)


if __name__ == "__main__":
    unittest.main()
