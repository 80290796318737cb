"""The examples of the document, as they are written there, and those of the README."""

import doctest
import unittest
from pathlib import Path

from seldomflip.base import logs, patterns
from seldomflip.judges import histories, judges
from seldomflip.judges import plain as answerers
from seldomflip.late import closing, monitors
from seldomflip.rules import rules
from seldomflip.sets import chains, closures, logsets, machines
from seldomflip.text import formats, shell
from seldomflip.towers import ladders, swings, towers

STAGE_1 = """
>>> [first_places(("a", "b"), ("a", "b", "a", "b")), first_above(("a", "b"), ("b", "a")), list(shrinkings(("a", "a", "b"))), minimal_of((("a", "b"), ("b",)))]
[(0, 1), ('a', 'b', 'a'), [('a', 'a'), ('a', 'b')], (('b',),)]
>>> g = Growth(("a", "b"), (1, "c"), (0, "b"))
>>> [g.end, g(1), g.origin(0), (g + Growth(g.end, (4, "a"))).end, arrived(("a", "b"), (1, 0)), refined(((), ("a", "b")))]
[('b', 'a', 'c', 'b'), 3, None, ('b', 'a', 'c', 'b', 'a'), ((), ('b',), ('a', 'b')), ((), ('a',), ('a', 'b'))]
"""

STAGE_2 = """
>>> one = ("a", "b", "b", "a")
>>> other = ("a", "b", "a", "b")
>>> [parting(one, other), alike(one, other), number_of_patterns(one), list(patterns(one, longest=1))]
[('a', 'a', 'b'), 2, 11, [(), ('a',), ('b',)]]
>>> [left_numbers(one), right_numbers(one), is_allowed(one, 2, ("out", 0)), first_alike(one, 2)]
[(1, 1, 2, 2), (2, 2, 1, 1), False, ('a', 'b', 'a', 'b')]
"""

STAGE_3 = """
>>> EVEN = (("a", "b"), ((1, 0), (0, 1)), (True, False))
>>> PLAIN = (("a", "b"), ((1, 2), (1, 2), (2, 2)), (True, True, False))
>>> [alike_states(PLAIN), least(PLAIN), first_logs(PLAIN), parting_log(EVEN, PLAIN)]
[((0, 1), (2,)), (('a', 'b'), ((0, 1), (1, 1)), (True, False)), ((), ('a',), ('b',)), ('a',)]
>>> [merged(EVEN, PLAIN), is_comparison(PLAIN, least(PLAIN), ("same", ((0, 0), (1, 0), (2, 1))))]
[(('a', 'b'), ((1, 2), (0, 2), (2, 2)), (True, False, False)), True]
"""

STAGE_4 = """
>>> even = Logs((("a", "b"), ((1, 0), (0, 1)), (True, False)))
>>> plain = Logs((("a", "b"), ((0, 1), (1, 1)), (True, False)))
>>> [str(even & plain), even(("a",)).first(), (~plain).first(), (even - plain).count_of(4), even.is_within(~plain), list(even.listed(longest=2))]
['logs over a, b: 3 states', ('a',), ('b',), 7, False, [(), ('b',), ('a', 'a'), ('b', 'b')]]
>>> [even.index_of(("b", "b")), even.log_at(3), plain.log_at(2), even.count(), Logs.sized(("a", "b"), most=3).count()]
[3, ('b', 'b'), ('a', 'a'), None, 15]
"""

STAGE_5 = """
>>> some = Logs.listing(("a", "b"), ("a", "b"), ("b", "b"), ("b", "a", "b"))
>>> [list(minimal(some).listed()), first_over(some, ("a",)), first_under(some, ("b", "b", "a")), inside_down(some).first()]
[[('a', 'b'), ('b', 'b')], ('a', 'b'), ('b', 'b'), None]
>>> one = above_of(("a",), (("a",),))
>>> [closure_paper(one, up=False), is_closure_paper(one, ("closed", ((0, 1), (1, 1))))]
[('open', ('a',), ()), True]
"""

STAGE_6 = """
>>> two = ("a", "b")
>>> chain = (("maybe", "a"), ("any", ("a", "b")), ("maybe", "c"))
>>> [reduced(chain), full_log(chain, 2), rest_of(chain, ("c",)), first_outside((("any", two),), (("any", ("b",)),))]
[(('any', ('a', 'b')), ('maybe', 'c')), ('a', 'a', 'b', 'a', 'b', 'c'), (), ('a',)]
>>> [avoiding(two, (("a", "b"),)), bars(two, ((("any", ("b",)), ("any", ("a",))),)), len(chains_of(below_of(two, (("a", "b"), ("b", "a")))))]
[((('any', ('b',)), ('any', ('a',))),), (('a', 'b'),), 2]
"""

VALUES = """
>>> LAST = (("a", "b"), ((1, 2), (1, 2), (1, 2)), (None, "x", "y"))
>>> ONCE = (("a", "b"), ((1, 0), (2, 1), (2, 2)), ("no", "yes", "no"))
>>> TURNS = (("a", "b"), ((1, 0), (1, 2), (2, 2)), ("no", "yes", "no"))
>>> THREE = (("a", "b", "c"), ((1, 2, 3), (4, 4, 4), (4, 4, 4), (4, 4, 4), (4, 4, 4)), (None, "p", "q", "r", None))
"""

STAGE_7 = """
>>> [verdict_of(ONCE, ("b", "a")), verdicts_of(ONCE), verdict_of(LAST, ()), verdict_of(behind(LAST, ("b",)), ())]
['yes', ('no', 'yes'), None, 'y']
>>> [parting_log(ONCE, mapped(ONCE, no=None)), judge_paper(ONCE, ONCE)[0], is_judge_paper(ONCE, LAST, ("unlike", ("a",)))]
[(), 'same', True]
"""

STAGE_8 = """
>>> past = ((), ("b",), ("a", "b"), ("a", "b", "b"), ("a", "a", "b", "b"))
>>> [kept(ONCE, past, first="no"), flip_logs(ONCE, past, first="x"), fewest_flips(LAST, past), fewest_flips(LAST, past, first="x")]
[('no', 'no', 'yes', 'yes', 'no'), (('a', 'b'), ('a', 'a', 'b', 'b')), 0, 1]
>>> keeper = Keeper(ONCE, first="no")
>>> [keeper.put(0, "a"), keeper.tell(("a", "b")), keeper(("a", "b", "a")), keeper.flips, keeper.back(2), bool(keeper)]
['yes', 'yes', 'no', 1, 0, False]
"""

STAGE_9 = """
>>> [heights(ONCE), heights(LAST), reach(ONCE, ("a",)), [len(step["yes"]) for step in rounds(ONCE)]]
[{'no': 3, 'yes': 2}, {'x': None, 'y': None}, {'no': 1, 'yes': 2}, [3, 3, 1, 1]]
>>> [highest_tower(ONCE, "yes"), tower_above(LAST, "x", 3), tower_above(ONCE, "yes", 1, start=("b", "b"))]
[(('a',), ('a', 'a')), (('a',), ('a', 'b'), ('a', 'b', 'a')), (('a', 'b', 'b'),)]
"""

STAGE_10 = """
>>> [number(ONCE), best_firsts(ONCE), number(LAST), number_paper(LAST)[0], is_number_paper(ONCE, number_paper(ONCE))]
[2, ('no',), None, 'swing', True]
>>> [len(greatest_swing(LAST)), [one for turn, one in zip(range(3), walk(LAST, greatest_swing(LAST)))]]
[1, [('a',), ('a', 'b'), ('a', 'b', 'a')]]
>>> [Rival(ONCE).play(lambda past: "no"), len(Rival(LAST).play(lambda past: verdict_of(LAST, past[-1]) or "x", most=3)[0])]
[(((), ('a',)), ('no', 'no')), 4]
"""

STAGE_11 = """
>>> steps = least_ladder(ONCE, "no", "yes")
>>> [str(steps), [minimal(one).first() for one in steps.rungs], steps(("b", "a")), climb(ONCE, steps, ("a", "b", "a"))]
['ladder from no to yes: 2 rungs', [('a',), ('a', 'a')], 'yes', (('a',), ('a', 'a'))]
"""

STAGE_12 = """
>>> A = ("occurs", ("a",))
>>> TWICE = ("occurs", ("a", "a"))
>>> once = ("and", A, ("not", TWICE))
>>> [rule_judge(("a", "b"), once) == least_judge(ONCE), normal(("a", "b"), ("not", ("or", TWICE, ("not", A)))) == once]
[True, True]
>>> [first_unlike(("a", "b"), once, A), implies(("a", "b"), once, A), normal(("a",), ("or", A, ("not", A)))]
[('a', 'a'), True, ('occurs', ())]
"""

STAGE_13 = """
>>> PAIRS = ((), ("a",), ("b",), ("c",), ("a", "a"), ("a", "b"), ("a", "c"), ("b", "c"))
>>> [number(THREE), worst_flips(best_filling(THREE)), is_knot(THREE, PAIRS, most=1), shrunk_knot(THREE, PAIRS, most=1) == PAIRS[:4] + PAIRS[5:]]
[1, 2, True, True]
>>> [least_table(THREE, ((), ("b",))), table_flips(THREE, ((), ("b",)), {(): "p", ("b",): "q"}), is_plain(THREE, best_filling(THREE))]
[{(): 'q', ('b',): 'q'}, 1, True]
"""

STAGE_14 = """
>>> [flips_left(ONCE, (), (), "no"), flips_left(ONCE, (), ("a",), "yes"), turning(ONCE, (), ("b",), "no"), possible(ONCE, ("a", "a"), ())]
[2, 1, ('a', 'b'), ('no',)]
>>> [closing_paper(ONCE, ("a",), ("a",), "no")[1], settled_logs(ONCE, "no").first(), closing_paper(LAST, (), (), "x")[0]]
[(), ('a', 'a'), 'swing']
"""

STAGE_15 = """
>>> late = Monitor(ONCE)
>>> [late.tell(5, "b"), late.tell(3, "a"), late.flips, late.flips_left(), str(late)]
['no', 'yes', 1, 1, '-|a.b: yes, 1 flips']
>>> [late.close(4), late.closed, late.late, len(late.turning()), late(9, "a"), late.is_settled()]
[1, ('a',), ('b',), 1, 'no', False]
"""

STAGE_16 = """
>>> [format_log(("a", "b")), parse_log(("a", "b"), "-"), format_history(((), ("a",)))]
['a.b', (), '- < a']
>>> list(Shell().run_all(("rule once a b : a & !a.a", "ladder once no", "monitor late once", "tell late 5 a", "ask late")))
['ok', 'ladder no yes / yes if a / no if a.a', 'ok', 'ok', 'yes, 1 flips, 1 left']
"""


class ExamplesTest(unittest.TestCase):

    def run_text(self, text, names, many):
        test = doctest.DocTestParser().get_doctest(text, dict(names), "examples", None, None)
        told = []
        result = doctest.DocTestRunner().run(test, out=told.append)
        self.assertEqual((result.failed, result.attempted), (0, many), "".join(told))

    def test_stage_1(self):
        self.run_text(STAGE_1, vars(logs), 3)

    def test_stage_2(self):
        self.run_text(STAGE_2, vars(patterns), 4)

    def test_stage_3(self):
        self.run_text(STAGE_3, vars(machines), 4)

    def test_stage_4(self):
        self.run_text(STAGE_4, vars(logsets), 4)

    def test_stage_5(self):
        self.run_text(STAGE_5, vars(closures), 4)

    def test_stage_6(self):
        self.run_text(STAGE_6, {**vars(chains), **vars(closures)}, 4)

    def test_stage_7(self):
        self.run_text(VALUES + STAGE_7, vars(judges), 6)

    def test_stage_8(self):
        self.run_text(VALUES + STAGE_8, vars(histories), 8)

    def test_stage_9(self):
        self.run_text(VALUES + STAGE_9, vars(towers), 6)

    def test_stage_10(self):
        self.run_text(VALUES + STAGE_10, {**vars(swings), "verdict_of": judges.verdict_of}, 7)

    def test_stage_11(self):
        self.run_text(VALUES + STAGE_11, {**vars(ladders), "minimal": closures.minimal}, 6)

    def test_stage_12(self):
        self.run_text(VALUES + STAGE_12, {**vars(rules), "least_judge": judges.least_judge}, 9)

    def test_stage_13(self):
        self.run_text(VALUES + STAGE_13, {**vars(answerers), "number": swings.number}, 7)

    def test_stage_14(self):
        self.run_text(VALUES + STAGE_14, vars(closing), 6)

    def test_stage_15(self):
        self.run_text(VALUES + STAGE_15, vars(monitors), 7)

    def test_stage_16(self):
        self.run_text(STAGE_16, {**vars(formats), **vars(shell)}, 2)

    def test_readme(self):
        text = (Path(__file__).resolve().parent.parent / "README.md").read_text()
        self.run_text(text.replace("```", ""), {}, 46)


if __name__ == "__main__":
    unittest.main()
