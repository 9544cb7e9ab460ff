"""The examples of the interface, as they stand, and those of README.md."""

import doctest
import os
import unittest

EXAMPLE = """
>>> from maskedlevels.machine import Board, played
>>> from maskedlevels.programs import Program
>>> rows = {"main": [("save", "c"), ("raise", 1), ("set", "x", 1), ("load", "c")], "clock": [("save", "c"), ("set", "x", 2)]}
>>> program = Program(1, 3, {"c": 0, "x": 0}, rows, {"tick": (1, "clock")})
>>> played(program, [("row", 0), ("serve", "tick"), ("row", 0), ("row", 0), ("row", 0)]).store
(1, 2)
>>> board = Board(program)
>>> board.arrive("tick")
>>> [board.step(), board.pending(), board.place()]
[('serve', 'tick'), [], ('clock', 0, 0, (0, 0), 1, 1)]
"""

COUNTS = """
>>> from maskedlevels.claims import against
>>> from maskedlevels.counting import Scripts
>>> from maskedlevels.programs import Program
>>> from maskedlevels.reached import seen_at
>>> program = Program(1, 2, {"x": 0}, {"main": [("look", "x")], "flip": [("add", "x", 1)]}, {"t": (1, "flip")})
>>> (seen_at(program, "main", 0), against(program, ("unseen", "main", 0, 1)))
([0, 1], [('serve', 't'), ('row', 0), ('row', 0)])
>>> scripts = Scripts(program, 2)
>>> (scripts.amount, scripts[0], scripts.number_of([("row", 0), ("serve", "t")]))
(2, [('serve', 't'), ('row', 0)], 1)
"""


class ExampleTest(unittest.TestCase):
    def holds(self, text):
        parts = [part.split("```")[0] for part in text.split("```\n>>>")[1:]]
        examples = "\n".join(">>>" + part for part in parts) or text
        test = doctest.DocTestParser().get_doctest(examples, {}, "example", None, None)
        self.assertGreater(len(test.examples), 4)
        lines = []
        results = doctest.DocTestRunner(verbose=False).run(test, out=lines.append)
        self.assertEqual(results.failed, 0, "".join(lines))

    def test_the_examples_of_the_interface(self):
        self.holds(EXAMPLE)
        self.holds(COUNTS)

    def test_the_examples_of_the_readme(self):
        here = os.path.dirname(os.path.abspath(__file__))
        with open(os.path.join(here, "..", "README.md"), encoding="utf-8") as readme:
            self.holds(readme.read())


if __name__ == "__main__":
    unittest.main()
