"""The examples of the document, as they are written there, and those of the README."""

import doctest
import unittest
from pathlib import Path

from seldomflip.base import logs, patterns

STAGE_1 = """
>>> [first_places(("a", "b"), ("a", "b", "a", "b")), first_above(("a", "b"), ("b", "a")), list(shrinkings(("a", "a", "b"))), minimal_of((("a", "b"), ("b",)))]
[(0, 1), ('a', 'b', 'a'), [('a', 'a'), ('a', 'b')], (('b',),)]
>>> g = Growth(("a", "b"), (1, "c"), (0, "b"))
>>> [g.end, g(1), g.origin(0), (g + Growth(g.end, (4, "a"))).end, arrived(("a", "b"), (1, 0)), refined(((), ("a", "b")))]
[('b', 'a', 'c', 'b'), 3, None, ('b', 'a', 'c', 'b', 'a'), ((), ('b',), ('a', 'b')), ((), ('a',), ('a', 'b'))]
"""

STAGE_2 = """
>>> one = ("a", "b", "b", "a")
>>> other = ("a", "b", "a", "b")
>>> [parting(one, other), alike(one, other), number_of_patterns(one), list(patterns(one, longest=1))]
[('a', 'a', 'b'), 2, 11, [(), ('a',), ('b',)]]
>>> [left_numbers(one), right_numbers(one), is_allowed(one, 2, ("out", 0)), first_alike(one, 2)]
[(1, 1, 2, 2), (2, 2, 1, 1), False, ('a', 'b', 'a', 'b')]
"""


class ExamplesTest(unittest.TestCase):

    def run_text(self, text, names, many):
        test = doctest.DocTestParser().get_doctest(text, dict(names), "examples", None, None)
        told = []
        result = doctest.DocTestRunner().run(test, out=told.append)
        self.assertEqual((result.failed, result.attempted), (0, many), "".join(told))

    def test_stage_1(self):
        self.run_text(STAGE_1, vars(logs), 3)

    def test_stage_2(self):
        self.run_text(STAGE_2, vars(patterns), 4)

    def test_readme(self):
        text = (Path(__file__).resolve().parent.parent / "README.md").read_text()
        self.run_text(text.replace("```", ""), {}, 12)


if __name__ == "__main__":
    unittest.main()
