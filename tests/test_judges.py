"""Judges: verdicts, judges made of sets and of other judges, papers."""

import random
import unittest
from itertools import product

import plain
from plain import AB, FREE, LAST, NO_JUDGES, ONCE, OTHER_LETTERS, label
from seldomflip.errors import InvalidJudge, InvalidLetters, InvalidLog, InvalidOperation, TooMany, UnknownName
from seldomflip.judges.judges import (
    agreed, behind, filled, freed, is_judge, is_judge_paper, is_total, joined, judge_paper, least_judge, logs_with,
    make_judge, make_judge_by, mapped, mapped_by, parting_log, verdict_of, verdicts_of)
from seldomflip.sets.logsets import Logs

SMALL = plain.some_machines(41, 120, "ab", 4, plain.VERDICTS) + plain.some_machines(42, 40, "abc", 3, plain.VERDICTS)
LOGS = plain.all_logs("ab", 4)
NO_SETS = plain.OTHERS + plain.NUMBERS + ((), ("a",), plain.EVEN, ONCE, plain.deep((), 9))
LINE = ("a",)


class IsJudgeTest(unittest.TestCase):

    def test_judges(self):
        for judge in SMALL + [LAST, ONCE, plain.TURNS, plain.THREE, FREE]:
            self.assertIs(plain.unchanged(self, is_judge, judge), True)

    def test_states(self):
        for many, wanted in ((1, True), (40, True), (41, False)):
            self.assertIs(is_judge(plain.tail_judge(("no",) * many, 0)), wanted)

    def test_verdicts(self):
        for many, wanted in ((0, True), (1, True), (5, True), (6, False)):
            verdicts = plain.SIX[:many]
            self.assertIs(is_judge(plain.tail_judge(verdicts + (None,) + verdicts, 0)), wanted)
            # also at states that no log reaches
            self.assertIs(is_judge((LINE, ((0,),) * (many + 1), verdicts + (None,))), wanted)
        self.assertIs(is_judge((LINE, ((0,),), ("abcdefgh",))), True)

    def test_accepts_every_value(self):
        for value in NO_JUDGES:
            self.assertIs(plain.unchanged(self, is_judge, value), False, value)


class VerdictsTest(unittest.TestCase):

    def test_against_all_short_logs(self):
        for judge in SMALL:
            logs = plain.all_logs(judge[0], 4)
            found = sorted({label(judge, log) for log in logs} - {None})
            self.assertEqual(plain.unchanged(self, verdicts_of, judge), tuple(found))
            self.assertIs(is_total(judge), all(label(judge, log) is not None for log in logs))
            for log in logs[:20]:
                self.assertEqual(plain.unchanged(self, verdict_of, judge, log), label(judge, log))
            for verdict in found + [None]:
                known = [log for log in logs if label(judge, log) == verdict]
                self.assertEqual(list(logs_with(judge, verdict).listed(longest=4)), known)
            for log in logs[:7]:
                rest = behind(judge, log)
                self.assertEqual(rest, least_judge(rest))
                for one in logs[:15]:
                    self.assertEqual(verdict_of(rest, one), label(judge, log + one))

    def test_edges(self):
        self.assertEqual([verdicts_of(FREE), is_total(FREE), is_total(ONCE)], [(), False, True])
        self.assertEqual(logs_with(FREE, None), Logs.everything(AB))
        self.assertEqual(logs_with(ONCE, None), Logs.nothing(AB))
        # a verdict of a state that no log reaches is none of the judge
        hidden = (LINE, ((0,), (0,)), ("no", "yes"))
        self.assertEqual([verdicts_of(hidden), least_judge(hidden), is_total(hidden)], [("no",), (LINE, ((0,),), ("no",)), True])
        self.assertEqual(plain.refused(self, UnknownName, logs_with, hidden, "yes").name, "yes")
        self.assertIs(is_total((LINE, ((0,), (0,)), ("no", None))), True)
        long = plain.tail_judge(("no",) * 39 + ("yes",), 39)
        self.assertEqual([verdict_of(long, ("a",) * many) for many in (0, 38, 39, 200)], ["no", "no", "yes", "yes"])
        self.assertEqual(behind(long, ("a",) * 200), (LINE, ((0,),), ("yes",)))
        self.assertEqual(len(logs_with(long, "yes")), 40)

    def test_least(self):
        for judge in SMALL:
            found = plain.unchanged(self, least_judge, judge)
            self.assertEqual(least_judge(found), found)
            for log in plain.all_logs(judge[0], 4):
                self.assertEqual(label(found, log), label(judge, log))
            firsts = [None] * len(found[1])
            kinds = set()
            for log in plain.all_logs(judge[0], 4)[::-1]:
                state = 0
                for event in log:
                    state = found[1][state][judge[0].index(event)]
                firsts[state] = log
            self.assertEqual(firsts, plain.in_order(firsts))
            for log in firsts:
                kinds.add(tuple(label(found, log + one) for one in plain.all_logs(judge[0], 4)))
            self.assertEqual(len(kinds), len(firsts))

    def test_refuses(self):
        for value in NO_JUDGES:
            for call in (verdicts_of, least_judge, is_total):
                plain.refused(self, InvalidJudge, call, value)
            for call in (verdict_of, logs_with, behind):
                plain.refused(self, InvalidJudge, call, value, 7)
        for value in plain.WRONG_LOGS:
            plain.refused(self, InvalidLog, verdict_of, ONCE, value)
            plain.refused(self, InvalidLog, behind, ONCE, value)
        for value in plain.NO_NAMES + ("x", "nox", "y"):
            if value is not None:
                self.assertEqual(plain.refused(self, UnknownName, logs_with, ONCE, value).name, value)


class MadeTest(unittest.TestCase):

    def test_against_all_short_logs(self):
        source = random.Random(43)
        for _ in range(60):
            names = {log: source.choice(plain.VERDICTS) for log in LOGS}
            sets = {name: Logs.listing(AB, *[log for log in LOGS if names[log] == name]) for name in plain.VERDICTS[1:]}
            judge = plain.unchanged(self, make_judge, AB, **sets)
            self.assertEqual(plain.unchanged(self, make_judge_by, AB, sets), judge)
            self.assertEqual(least_judge(judge), judge)
            for log in plain.all_logs("ab", 5):
                self.assertEqual(verdict_of(judge, log), names.get(log))

    def test_made_again_from_its_sets(self):
        for judge in SMALL:
            sets = {verdict: logs_with(judge, verdict) for verdict in verdicts_of(judge)}
            self.assertEqual(make_judge_by(judge[0], sets), least_judge(judge))
            # the order of the keys means nothing
            self.assertEqual(make_judge_by(judge[0], {name: sets[name] for name in sorted(sets)[::-1]}), least_judge(judge))

    def test_edges(self):
        self.assertEqual(make_judge(AB), FREE)
        self.assertEqual(make_judge_by(AB, {}), FREE)
        self.assertEqual(make_judge(AB, no=Logs.nothing(AB)), FREE)
        everything = Logs.everything(AB)
        self.assertEqual(make_judge_by(AB, {"letters": everything}), (AB, ((0, 0),), ("letters",)))

    def test_five_and_six_verdicts(self):
        for many in (5, 6):
            sets = {name: Logs.listing(LINE, ("a",) * at) for at, name in enumerate(plain.SIX[:many])}
            # empty sets do not count
            sets["empty"] = Logs.nothing(LINE)
            if many == 5:
                self.assertEqual(make_judge_by(LINE, sets), plain.tail_judge(plain.SIX[:5] + (None,), 5))
            else:
                self.assertEqual(plain.refused(self, TooMany, make_judge_by, LINE, sets).limit, 5)
                # ahead of the states
                sets["a"] = Logs.listing(LINE, ("a",) * 90)
                self.assertEqual(plain.refused(self, TooMany, make_judge, LINE, **sets).limit, 5)

    def test_forty_states(self):
        self.assertEqual(make_judge(LINE, yes=Logs.listing(LINE, ("a",) * 38)), plain.tail_judge((None,) * 38 + ("yes", None), 39))
        for many in (39, 198):
            self.assertEqual(plain.refused(self, TooMany, make_judge, LINE, yes=Logs.listing(LINE, ("a",) * many)).limit, 40)
        one = Logs(plain.round_of_states(AB, "a", 8, (0,)))
        for many, size in ((5, 40), (6, 48)):
            two = Logs(plain.round_of_states(AB, "b", many, (0,)))
            if size == 40:
                self.assertEqual(len(make_judge(AB, x=one & two, y=one - two)[1]), 40)
            else:
                self.assertEqual(plain.refused(self, TooMany, make_judge, AB, x=one & two, y=one - two).limit, 40)

    def test_refuses(self):
        everything, some = Logs.everything(AB), Logs.listing(AB, ("a",))
        for value in plain.NO_LETTERS:
            plain.refused(self, InvalidLetters, make_judge_by, value, None)
            plain.refused(self, InvalidLetters, make_judge, value, no=None)
        for value in NO_SETS + plain.SETS[:2]:
            if value != {}:
                plain.refused(self, InvalidOperation, make_judge_by, AB, value)
        for value in NO_SETS + (Logs.everything(LINE), Logs.everything(("a", "c"))):
            plain.refused(self, InvalidOperation, make_judge, AB, no=value)
            plain.refused(self, InvalidOperation, make_judge_by, AB, {"yes": some, "no": value})
        for name in (1, None, True, "", "No", "a b", plain.LONG_NAME, ("no",), ()):
            plain.refused(self, InvalidOperation, make_judge_by, AB, {name: some})
        for name in ("No", "no_", plain.LONG_NAME, "n1"):
            plain.refused(self, InvalidOperation, make_judge, AB, **{name: some})
        plain.refused(self, InvalidOperation, make_judge, AB, no=everything, yes=some)
        six = {name: everything for name in plain.SIX}
        plain.refused(self, InvalidOperation, make_judge_by, AB, six)


class ChangedTest(unittest.TestCase):

    def check(self, judge, found, wanted, most=4):
        self.assertEqual(least_judge(found), found)
        for log in plain.all_logs(judge[0], most):
            self.assertEqual(verdict_of(found, log), wanted(log), (judge, log))

    def test_mapped(self):
        targets = (None, "no", "yes", "x", "new")
        for judge in SMALL[:40]:
            known = verdicts_of(judge)
            for values in product(targets, repeat=len(known)):
                names = dict(zip(known, values))
                found = mapped_by(judge, names)
                self.check(judge, found, lambda log: names.get(label(judge, log)), 3)
                self.assertEqual(mapped(judge, **names), found)

    def test_mapped_some(self):
        self.assertEqual(plain.unchanged(self, mapped, ONCE), ONCE)
        self.assertEqual(plain.unchanged(self, mapped_by, ONCE, {}), ONCE)
        self.assertEqual(mapped(ONCE, no="yes", yes="no"), (AB, ((1, 0), (2, 1), (2, 2)), ("yes", "no", "yes")))
        self.assertEqual(mapped(ONCE, no="yes"), (AB, ((0, 0),), ("yes",)))
        self.assertEqual(mapped(ONCE, yes=None), (AB, ((1, 0), (2, 1), (2, 2)), ("no", None, "no")))
        judge = mapped(ONCE, yes="judge")
        self.assertEqual(mapped_by(judge, {"judge": "yes"}), ONCE)
        five = plain.tail_judge(plain.SIX[:5], 0)
        self.assertEqual(mapped(five, a="b", b="a", e="f"), plain.tail_judge(("b", "a", "c", "d", "f"), 0))
        self.assertEqual(mapped_by(five, dict.fromkeys(plain.SIX[:5])), (LINE, ((0,),), (None,)))

    def test_mapped_refuses(self):
        for value in NO_JUDGES:
            plain.refused(self, InvalidJudge, mapped_by, value, None)
            plain.refused(self, InvalidJudge, mapped, value, no=7)
        for value in NO_SETS + plain.SETS:
            if value not in ({}, {"a": "b"}):
                plain.refused(self, InvalidOperation, mapped_by, ONCE, value)
        for value in plain.NO_NAMES:
            if value is not None:
                plain.refused(self, InvalidOperation, mapped, ONCE, no="x", yes=value)
                plain.refused(self, InvalidOperation, mapped_by, ONCE, {"yes": "x", "x": value})
        for name in (1, None, True, "", "No", "a b", plain.LONG_NAME, ("no",), ()):
            plain.refused(self, InvalidOperation, mapped_by, ONCE, {"x": "no", name: "no"})
        self.assertEqual(plain.refused(self, UnknownName, mapped, ONCE, no="x", z="y", x=None, yes="no").name, "x")
        self.assertEqual(plain.refused(self, UnknownName, mapped_by, ONCE, {"z": "y", "zz": "y"}).name, "z")
        self.assertEqual(plain.refused(self, UnknownName, mapped, FREE, no="no").name, "no")
        hidden = (LINE, ((0,), (0,)), ("no", "yes"))
        self.assertEqual(plain.refused(self, UnknownName, mapped, hidden, yes="no").name, "yes")

    def test_filled(self):
        for judge in SMALL:
            for name in ("no", "new"):
                found = plain.unchanged(self, filled, judge, name)
                self.check(judge, found, lambda log: label(judge, log) or name)
                self.assertIs(is_total(found), True)

    def test_filled_edges(self):
        five = plain.tail_judge(plain.SIX[:5], 0)
        self.assertEqual(filled(five, "f"), five)
        free = plain.tail_judge(plain.SIX[:5] + (None,), 0)
        self.assertEqual(filled(free, "e"), plain.tail_judge(("a", "b", "c", "d", "e", "e"), 0))
        self.assertEqual(plain.refused(self, TooMany, filled, free, "f").limit, 5)
        # verdicts of states that no log reaches do not count
        self.assertEqual(filled((LINE, ((0,),) * 6, (None,) + plain.SIX[:5]), "f"), (LINE, ((0,),), ("f",)))
        for value in NO_JUDGES:
            plain.refused(self, InvalidJudge, filled, value, None)
        for value in plain.NO_NAMES:
            plain.refused(self, InvalidOperation, filled, ONCE, value)
            plain.refused(self, InvalidOperation, filled, free, value)

    def test_freed(self):
        for judge, machine in zip(SMALL[:60], plain.some_machines(44, 60, "ab", 4)):
            found = plain.unchanged(self, freed, judge, Logs(machine))
            self.check(judge, found, lambda log: None if label(machine, log) else label(judge, log))

    def test_freed_edges(self):
        self.assertEqual(freed(ONCE, Logs.nothing(AB)), ONCE)
        self.assertEqual(freed(ONCE, Logs.everything(AB)), FREE)
        round_of_eight = (AB, plain.round_of_states(AB, "a", 8, ())[1], ("yes",) + ("no",) * 7)
        for many, size in ((5, 40), (6, 48), (200, 1600)):
            logs = Logs(plain.round_of_states(AB, "b", many, (0,)))
            if size == 40:
                self.assertEqual(len(freed(round_of_eight, logs)[1]), 40)
            else:
                self.assertEqual(plain.refused(self, TooMany, freed, round_of_eight, logs).limit, 40)
        # what is met on the way does not count
        self.assertEqual(freed(FREE, Logs(plain.round_of_states(AB, "b", 200, (0,)))), FREE)
        for value in NO_JUDGES:
            plain.refused(self, InvalidJudge, freed, value, None)
        for value in NO_SETS:
            plain.refused(self, InvalidOperation, freed, ONCE, value)
        plain.refused(self, InvalidOperation, freed, ONCE, Logs.nothing(LINE))
        plain.refused(self, InvalidOperation, freed, ONCE, Logs.nothing(("a", "c")))


class TwoJudgesTest(unittest.TestCase):

    def test_joined_and_agreed(self):
        met = {True: 0, False: 0}
        for judge in SMALL[:120:3] + [FREE, mapped(ONCE, no=None), mapped(ONCE, yes=None)]:
            for other in SMALL[1:120:7] + [FREE, ONCE]:
                found = agreed(judge, other)
                self.assertEqual(least_judge(found), found)
                for log in LOGS:
                    one, two = label(judge, log), label(other, log)
                    self.assertEqual(verdict_of(found, log), one if one == two else None)
                logs = plain.all_logs("ab", 6)
                fits = all(label(judge, log) in (None, label(other, log)) or label(other, log) is None for log in logs)
                met[fits] += 1
                if fits:
                    both = joined(judge, other)
                    self.assertEqual(least_judge(both), both)
                    for log in LOGS:
                        self.assertEqual(verdict_of(both, log), label(judge, log) or label(other, log))
                else:
                    plain.refused(self, InvalidOperation, joined, judge, other)
        self.assertGreater(min(met.values()), 20)

    def test_parts_of_judges_are_joined_again(self):
        for judge in SMALL:
            known = verdicts_of(judge)
            if known:
                one = mapped_by(judge, {known[0]: None})
                other = mapped_by(judge, dict.fromkeys(known[1:]))
                self.assertEqual(plain.unchanged(self, joined, one, other), least_judge(judge))
                self.assertEqual(plain.unchanged(self, agreed, one, judge), one)

    def test_limits(self):
        sets = [Logs.listing(LINE, ("a",) * at) for at in range(6)]
        three = make_judge(LINE, a=sets[0], b=sets[1], c=sets[2])
        two = make_judge(LINE, d=sets[3], e=sets[4])
        self.assertEqual(joined(three, two), plain.tail_judge(plain.SIX[:5] + (None,), 5))
        more = make_judge(LINE, d=sets[3], e=sets[4], f=sets[5])
        self.assertEqual(plain.refused(self, TooMany, joined, three, more).limit, 5)
        one = (AB, plain.round_of_states(AB, "a", 8, ())[1], ("yes",) + (None,) * 7)
        for many, size in ((5, 40), (6, 48)):
            other = (AB, plain.round_of_states(AB, "b", many, ())[1], ("yes",) + (None,) * (many - 1))
            for call in (joined, agreed):
                if size == 40:
                    self.assertEqual(len(call(one, other)[1]), 40)
                else:
                    self.assertEqual(plain.refused(self, TooMany, call, one, other).limit, 40)
        # two verdicts of one log come ahead of more than five verdicts, and these ahead of more states
        self.assertEqual(plain.refused(self, TooMany, joined, three, mapped(plain.tail_judge(
            (None,) * 3 + ("d", "e", "f") + (None,) * 34, 39), d="g")).limit, 5)
        plain.refused(self, InvalidOperation, joined, three, plain.tail_judge(("b", None, None, "d", "e", "f"), 0))

    def test_parting_logs(self):
        for judge in SMALL[:120:3]:
            for other in SMALL[:120:5]:
                logs = [log for log in plain.all_logs("ab", 6) if label(judge, log) != label(other, log)]
                first = logs[0] if logs else None
                self.assertEqual(parting_log(judge, other), first)
                paper = judge_paper(judge, other)
                if logs:
                    self.assertEqual((paper[0], len(paper)), ("unlike", 2))
                    self.assertIn(paper[1], logs)
                else:
                    self.assertEqual((paper[0], len(paper)), ("same", 2))
                    self.assertIs(self.plain_same(judge, other, paper[1]), True)
                    self.assertEqual(least_judge(judge), least_judge(other))
                self.assertIs(is_judge_paper(judge, other, paper), True)

    def plain_same(self, judge, other, pairs):
        if (0, 0) not in pairs or list(pairs) != sorted(set(pairs)):
            return False
        for one, two in pairs:
            following = zip(judge[1][one], other[1][two])
            if judge[2][one] != other[2][two] or not all(pair in pairs for pair in following):
                return False
        return True

    def test_all_papers(self):
        judges = [judge for judge in SMALL[:120] if len(judge[1]) <= 2][:14]
        for judge, other in product(judges, repeat=2):
            states = list(product(range(len(judge[1])), range(len(other[1]))))
            for kept in product((True, False), repeat=len(states)):
                pairs = tuple(pair for pair, keep in zip(states, kept) if keep)
                wanted = self.plain_same(judge, other, pairs)
                self.assertIs(is_judge_paper(judge, other, ("same", pairs)), wanted)
            for log in plain.all_logs("ab", 3):
                wanted = label(judge, log) != label(other, log)
                self.assertIs(is_judge_paper(judge, other, ("unlike", log)), wanted)

    def test_long_logs(self):
        one = plain.tail_judge(("no",) * 39 + ("yes",), 0)
        other = plain.tail_judge(("no",) * 38 + ("yes",), 0)
        self.assertEqual(parting_log(one, other), ("a",) * 38)
        late = plain.tail_judge(("no",) * 39 + ("yes",), 1)
        self.assertEqual(parting_log(one, late), ("a",) * 78)
        self.assertIs(is_judge_paper(one, late, ("unlike", ("a",) * 119)), True)
        self.assertIs(is_judge_paper(one, late, ("unlike", ("a",) * 199)), True)
        self.assertIs(is_judge_paper(one, late, ("unlike", ("a",) * 239)), False)

    def test_papers_accept_every_value(self):
        for value in plain.NO_LOGS + plain.SETS + NO_JUDGES[:20]:
            self.assertIs(plain.unchanged(self, is_judge_paper, ONCE, ONCE, value), False, value)
            for paper in (("same", value), ("same", (value,)), ("same", ((0, 0), value)), (value, ((0, 0), (1, 1), (2, 2))),
                          ("same", ((0, 0), (1, 1), (2, 2)), value), ("unlike", value)):
                self.assertIs(is_judge_paper(ONCE, ONCE, paper), False, paper)
            self.assertIs(is_judge_paper(ONCE, LAST, ("unlike", value)), False, value)
            self.assertIs(is_judge_paper(ONCE, LAST, (value, ("a",))), False, value)
        self.assertIs(is_judge_paper(ONCE, ONCE, ("same", ((0, 0), (1, 1), (2, 2)))), True)
        self.assertIs(is_judge_paper(ONCE, LAST, ("unlike", ("a",))), True)
        for paper in (["unlike", ("a",)], ("unlike", ["a"]), ("unlike", ("c",)), ("parted", ("a",)), ("unlike", ("a",), ())):
            self.assertIs(is_judge_paper(ONCE, LAST, paper), False)

    def test_refuses(self):
        for call, rest in ((joined, ()), (agreed, ()), (parting_log, ()), (judge_paper, ()), (is_judge_paper, (None,))):
            for value in NO_JUDGES:
                plain.refused(self, InvalidJudge, call, value, value, *rest)
                plain.refused(self, InvalidJudge, call, ONCE, value, *rest)
            plain.refused(self, InvalidOperation, call, ONCE, OTHER_LETTERS, *rest)
            plain.refused(self, InvalidOperation, call, plain.tail_judge(("no",), 0), ONCE, *rest)


if __name__ == "__main__":
    unittest.main()
