"""Swings, numbers, number papers, walks and rivals."""

import random
import unittest

import plain
from plain import AB, FREE, LAST, ONCE, THREE, TURNS, label
from seldomflip.errors import (
    InvalidJudge, InvalidLog, InvalidNumber, InvalidOperation, NothingToUndo, TooMany, UnknownName)
from seldomflip.judges.histories import flips, kept
from seldomflip.judges.judges import logs_with, make_judge_by, verdict_of, verdicts_of
from seldomflip.sets.closures import below, below_of, first_over, is_closed_down
from seldomflip.sets.logsets import Logs
from seldomflip.towers.swings import (
    Rival, best_firsts, greatest_swing, is_number_paper, is_swing, number, number_paper, walk)
from seldomflip.towers.towers import heights, highest_tower, is_tower, reach, rounds, tower_above
from test_towers import WIDE, WIDER, chain_judge, plain_rounds

SMALL = plain.some_machines(101, 60, "ab", 4, (None, "p", "q")) + plain.some_machines(102, 50, "ab", 4, (None, "p", "q", "r")) + (
    plain.some_machines(103, 20, "a", 5, (None, "p", "q"))) + [FREE, LAST, ONCE, THREE, TURNS]
ENDLESS = [judge for judge in SMALL if None in heights(judge).values()]
NO_MOST = plain.NO_NUMBERS + plain.SETS + (61, -1, 10 ** 59, -(10 ** 59))
NO_ANSWERS = plain.NO_NAMES
# two verdicts have no height, the third one has height 1
BESIDE = (("a", "b", "c"), ((1, 2, 3), (1, 2, 4), (1, 2, 4), (4, 4, 4), (4, 4, 4)), (None, "x", "y", "z", None))


def others_of(judge, verdict):
    """The set of the logs with another verdict."""
    found = Logs.nothing(judge[0])
    for other in verdicts_of(judge):
        if other != verdict:
            found = found | logs_with(judge, other)
    return found


def is_plain_swing(judge, logs):
    """By the definition: above each log there is one without each verdict."""
    if not logs or not is_closed_down(logs) or not verdicts_of(judge):
        return False
    return all(logs.is_within(below(logs & others_of(judge, verdict))) for verdict in verdicts_of(judge))


def some_sets(seed, letters, many):
    """Sets closed downward, and a few others."""
    sets = [Logs(machine) for machine in plain.some_machines(seed, many, letters, 3)]
    return [below(one) for one in sets] + sets[::7] + [Logs.nothing(letters), Logs.everything(letters)]


class SwingsTest(unittest.TestCase):

    def test_is_swing(self):
        found = 0
        for at, judge in enumerate(SMALL):
            for logs in some_sets(at, judge[0], 6) + [greatest_swing(judge)]:
                self.assertEqual(is_swing(judge, logs), is_plain_swing(judge, logs), (judge, logs.machine))
                found += is_swing(judge, logs)
        self.assertGreater(found, 40)

    def test_against_all_short_logs(self):
        for judge in SMALL[:40]:
            for logs in some_sets(5, judge[0], 3):
                if is_swing(judge, logs):
                    self.assertTrue(is_closed_down(logs) and logs)
                    members = [log for log in plain.all_logs(judge[0], 6) if log in logs]
                    for log in members[:7]:
                        met = {label(judge, other) for other in members if plain.fits(log, other)} - {None}
                        self.assertGreater(len(met), 1)

    def test_greatest(self):
        for judge in SMALL:
            found = plain.unchanged(self, greatest_swing, judge)
            wanted = Logs.nothing(judge[0])
            for logs in plain_rounds(judge)[-1].values():
                wanted = wanted | logs
            self.assertEqual(found, wanted)
            self.assertEqual(bool(found), is_swing(judge, found))
            self.assertEqual(bool(found), number(judge) is None)
            for logs in some_sets(9, judge[0], 4):
                if is_swing(judge, logs):
                    self.assertTrue(logs.is_within(found))
                    # a union of swings is a swing
                    self.assertTrue(is_swing(judge, logs | found))

    def test_ordinary(self):
        self.assertEqual(greatest_swing(LAST), Logs.everything(AB))
        self.assertEqual(greatest_swing(ONCE), Logs.nothing(AB))
        self.assertEqual(greatest_swing(FREE), Logs.nothing(AB))
        self.assertEqual(greatest_swing(BESIDE), Logs((("a", "b", "c"), ((0, 0, 1), (1, 1, 1)), (True, False))))
        self.assertFalse(is_swing(LAST, below_of(AB, (("a", "b"),))))
        self.assertFalse(is_swing(LAST, Logs.nothing(AB)))
        self.assertFalse(is_swing(LAST, Logs.sized(AB, least=1)))
        self.assertFalse(is_swing(LAST, Logs.everything(("a", "c"))))

    def test_smaller_swings(self):
        # beside d the last of a and b decides; the logs without d are a swing, too
        judge = (("a", "b", "d"), ((1, 2, 0), (1, 2, 1), (1, 2, 2)), (None, "x", "y"))
        less = Logs((judge[0], ((0, 0, 1), (1, 1, 1)), (True, False)))
        self.assertTrue(is_swing(judge, less))
        self.assertEqual(greatest_swing(judge), Logs.everything(judge[0]))
        self.assertTrue(number_paper(judge)[0] == "swing" and is_number_paper(judge, ("swing", less)))

    def test_loops(self):
        # [10.2]: a loop through states with different verdicts gives a swing, and two verdicts without a height
        for judge in ENDLESS:
            self.assertGreater(len([1 for many in heights(judge).values() if many is None]), 1)
        round_and_round = (("a",), ((1,), (2,), (1,)), (None, "x", "y"))
        self.assertEqual(greatest_swing(round_and_round), Logs.everything(("a",)))
        # the reverse does not hold: each loop of this one keeps its verdict
        tails = (AB, ((1, 2), (1, 2), (2, 2)), ("x", "x", "y"))
        self.assertEqual(number(tails), 1)

    def test_accepts_every_value(self):
        for value in plain.OTHERS + plain.NUMBERS + plain.SETS + ((), ("swing",), [Logs.everything(AB)], LAST):
            self.assertIs(is_swing(ONCE, value), False)
            self.assertIs(is_number_paper(ONCE, value), False)
        self.assertIs(is_swing(LAST, Logs.everything(AB)), True)

    def test_refuses(self):
        for judge in plain.NO_JUDGES[::5] + (plain.EVEN, None):
            for call in (greatest_swing, number, best_firsts, number_paper, Rival):
                plain.refused(self, InvalidJudge, call, judge)
            plain.refused(self, InvalidJudge, is_swing, judge, None)
            plain.refused(self, InvalidJudge, is_number_paper, judge, None)
            plain.refused(self, InvalidJudge, lambda *values: next(walk(*values)), judge, None)

    def test_too_many(self):
        self.assertIsNotNone(number(WIDE))
        for call in (greatest_swing, number, best_firsts, number_paper, Rival):
            self.assertEqual(plain.refused(self, TooMany, call, WIDER).limit, 200)
        # no rounds are needed for these
        self.assertFalse(is_swing(WIDER, Logs.everything(WIDER[0])))
        self.assertFalse(is_number_paper(WIDER, ("number", {}, ())))


class WalkTest(unittest.TestCase):

    def check(self, judge, swing, start, many):
        found = [log for _, log in zip(range(many), walk(judge, swing, start=start))]
        low = start
        verdict = None
        for log in found:
            self.assertEqual(log, first_over(swing & others_of(judge, verdict), low))
            low, verdict = log, verdict_of(judge, log)
        self.assertTrue(is_tower(judge, tuple(found)))

    def test_against_sets(self):
        for at, judge in enumerate(ENDLESS):
            swing = greatest_swing(judge)
            for start in [log for log in plain.all_logs(judge[0], 3) if log in swing][::3]:
                self.check(judge, swing, start, 6)
            for logs in some_sets(at, judge[0], 5):
                if is_swing(judge, logs):
                    self.check(judge, logs, (), 4)

    def test_long_logs(self):
        found = [log for _, log in zip(range(260), walk(LAST, Logs.everything(AB)))]
        self.assertEqual(found[-1], ("a", "b") * 130)
        self.assertTrue(is_tower(LAST, tuple(found)))
        start = ("b", "a") * 100
        found = [log for _, log in zip(range(4), walk(LAST, Logs.everything(AB), start=start))]
        self.assertEqual(found, [start, start + ("b",), start + ("b", "a"), start + ("b", "a", "b")])

    def test_refuses(self):
        def first(*values, **named):
            return next(walk(*values, **named))

        swing = Logs.everything(AB)
        for value in plain.OTHERS + plain.SETS + (Logs.nothing(AB), Logs.sized(AB, most=3), Logs.everything(("a",))):
            plain.refused(self, InvalidOperation, first, LAST, value)
            plain.refused(self, InvalidOperation, first, LAST, value, start=("c",))
        for log in plain.WRONG_LOGS:
            plain.refused(self, InvalidLog, first, LAST, swing, start=log)
        inner = greatest_swing(BESIDE)
        plain.refused(self, InvalidOperation, first, BESIDE, inner, start=("c",))
        plain.refused(self, InvalidLog, first, BESIDE, inner, start=("d",))
        self.assertEqual(first(BESIDE, inner, start=("b",)), ("b",))
        # errors wait for the first value
        walk(None, None, start=None)


class NumberTest(unittest.TestCase):

    def test_by_definition(self):
        for judge in SMALL:
            many = heights(judge)
            worths = {one: max([0] + [many[other] or 0 for other in many if other != one]) for one in many}
            if None in many.values():
                self.assertEqual((number(judge), best_firsts(judge)), (None, ()))
            else:
                least = min(worths.values(), default=0)
                self.assertEqual(plain.unchanged(self, number, judge), least)
                self.assertEqual(plain.unchanged(self, best_firsts, judge), tuple(
                    one for one in verdicts_of(judge) if worths[one] == least))
                # [10.3]: the greatest height but one; () with a verdict gives the only best first answer
                self.assertEqual(least, sorted([0, 0] + list(many.values()))[-2] if len(many) > 1 else 0)
                if verdict_of(judge, ()) is not None and len(many) > 1:
                    self.assertEqual(best_firsts(judge), (verdict_of(judge, ()),))

    def test_ordinary(self):
        self.assertEqual([number(one) for one in (ONCE, TURNS, THREE, LAST, FREE, BESIDE)], [2, 2, 1, None, 0, None])
        self.assertEqual([best_firsts(one) for one in (ONCE, THREE, FREE, LAST)], [("no",), ("p", "q", "r"), (), ()])
        one = (AB, ((1, 0), (1, 1)), (None, "no"))
        self.assertEqual((number(one), best_firsts(one)), (0, ("no",)))
        self.assertEqual((number(chain_judge(40)), best_firsts(chain_judge(40))), (39, ("p",)))

    def test_keeping_answers_never_flip_more_often(self):
        source = random.Random(5)
        for judge in SMALL:
            many = number(judge)
            if many is None or not verdicts_of(judge):
                continue
            for _ in range(8):
                log = tuple(source.choice(judge[0]) for _ in range(7))
                order = source.sample(range(7), 7)
                history = [tuple(log[at] for at in sorted(order[:length])) for length in range(8)]
                for first in best_firsts(judge):
                    self.assertLessEqual(flips(kept(judge, tuple(history), first=first)), many)

    def test_each_first_answer_can_be_forced(self):
        for judge in SMALL:
            many = number(judge)
            for first in verdicts_of(judge) + ("other",) if many is not None else ():
                towers = [highest_tower(judge, one) for one in verdicts_of(judge) if one != first]
                history = ((),) + max(towers, key=len, default=())
                self.assertGreaterEqual(flips(kept(judge, history, first=first)), many)


class NumberPaperTest(unittest.TestCase):

    def test_papers(self):
        for judge in SMALL:
            paper = plain.unchanged(self, number_paper, judge)
            self.assertIs(plain.unchanged(self, is_number_paper, judge, paper), True)
            self.assertEqual(paper[0], "swing" if number(judge) is None else "number")
            if paper[0] == "number":
                self.assertEqual({one: len(paper[1][one]) for one in paper[1]}, heights(judge))

    def test_changed_papers(self):
        for judge in SMALL:
            paper = number_paper(judge)
            self.assertFalse(is_number_paper(judge, paper[:-1]))
            self.assertFalse(is_number_paper(judge, paper + ((),)))
            self.assertFalse(is_number_paper(judge, list(paper)))
            self.assertFalse(is_number_paper(judge, ("height",) + paper[1:]))
            if paper[0] == "number":
                self.changed(judge, paper)
            else:
                for logs in some_sets(3, judge[0], 4) + [Logs.everything(judge[0])]:
                    self.assertEqual(is_number_paper(judge, ("swing", logs)), is_plain_swing(judge, logs))

    def changed(self, judge, paper):
        _, towers, covers = paper
        self.assertFalse(is_number_paper(judge, ("number", towers, list(covers))))
        self.assertFalse(is_number_paper(judge, ("number", list(towers), covers)))
        self.assertFalse(is_number_paper(judge, ("number", {**towers, "other": ()}, covers)))
        self.assertFalse(is_number_paper(judge, ("swing", greatest_swing(judge))))
        # more covers than are needed are allowed
        self.assertTrue(is_number_paper(judge, ("number", towers, covers + covers[-1:])))
        for verdict in towers:
            less = {one: towers[one] for one in towers if one != verdict}
            self.assertFalse(is_number_paper(judge, ("number", less, covers)))
            self.assertFalse(is_number_paper(judge, ("number", {**less, "other": towers[verdict]}, covers)))
            for tower in ((), towers[verdict][1:], towers[verdict][:-1], towers[verdict] + towers[verdict][-1:], None):
                self.assertFalse(is_number_paper(judge, ("number", {**towers, verdict: tower}, covers)))
            if len(towers[verdict]) == len(covers) - 1:
                wide = {**covers[-1], verdict: Logs.everything(judge[0])}
                self.assertFalse(is_number_paper(judge, ("number", towers, covers[:-1] + (wide,))))
        if towers:
            self.assertFalse(is_number_paper(judge, ("number", towers, covers[:-1])))
            self.assertFalse(is_number_paper(judge, ("number", towers, covers[1:])))
            self.assertFalse(is_number_paper(judge, ("number", towers, ())))

    def test_towers_of_other_verdicts(self):
        paper = number_paper(THREE)
        towers = {"p": (("a",),), "q": (("b",),), "r": (("c",),)}
        self.assertTrue(is_number_paper(THREE, ("number", towers, paper[2])))
        for one, other in (("p", "q"), ("q", "r")):
            self.assertFalse(is_number_paper(THREE, ("number", {**towers, one: towers[other], other: towers[one]}, paper[2])))

    def test_other_towers_and_covers(self):
        towers = {"no": (("b",), ("a", "b"), ("b", "a", "a", "b")), "yes": (("b", "a"), ("a", "b", "a"))}
        covers = tuple(dict(step) for step in rounds(ONCE))
        self.assertTrue(is_number_paper(ONCE, ("number", towers, covers)))
        wide = ({"no": Logs.everything(AB), "yes": Logs.everything(AB)},) + covers[1:]
        self.assertFalse(is_number_paper(ONCE, ("number", towers, wide)))
        self.assertTrue(is_number_paper(FREE, ("number", {}, ())))
        self.assertTrue(is_number_paper(FREE, ("number", {}, ({}, {}))))
        self.assertFalse(is_number_paper(FREE, ("number", {}, ({"no": Logs.nothing(AB)},))))
        long = {"no": ((), ("a",), ("b",) * 200 + ("a", "a")), "yes": (("a",) + ("b",) * 250, ("a",) + ("b",) * 250 + ("a",))}
        self.assertTrue(is_number_paper(ONCE, ("number", long, covers)))


def plain_left(judge, log, answer):
    """The greatest height of towers above the log with another verdict than the answer, None without a bound."""
    found = [many for verdict, many in reach(judge, log).items() if verdict != answer]
    return None if None in found else max([0] + found)


def plain_next(judge, log, answer):
    """The next log of a rival, from towers and sets."""
    many = plain_left(judge, log, answer)
    if many is None:
        return first_over(greatest_swing(judge) & others_of(judge, answer), log)
    verdicts = [one for one, times in reach(judge, log).items() if one != answer and many and times == many]
    return min([tower_above(judge, one, many, start=log)[0] for one in verdicts], key=lambda one: (len(one), one), default=None)


class RivalTest(unittest.TestCase):

    def state(self, rival):
        return (rival.history, rival.answers, rival.left, len(rival), str(rival))

    def test_next(self):
        source = random.Random(8)
        for judge in SMALL:
            rival = Rival(judge)
            self.assertEqual(self.state(rival)[:4], (((),), (), number(judge), 0))
            answers = ()
            history = ((),)
            for _ in range(5):
                verdict = verdict_of(judge, history[-1])
                answer = verdict or source.choice(verdicts_of(judge) + ("other",))
                wanted = plain_next(judge, history[-1], answer)
                before = self.state(rival)
                self.assertEqual(rival.next(answer), wanted, (judge, history, answer))
                if wanted is None:
                    self.assertEqual(self.state(rival), before)
                    break
                history, answers = history + (wanted,), answers + (answer,)
                left = plain_left(judge, wanted, verdict_of(judge, wanted))
                self.assertNotIn(verdict_of(judge, wanted), (None, answer))
                self.assertEqual(self.state(rival)[:4], (history, answers, left, len(answers)))
                self.assertEqual(str(rival), f"rival at {len(answers)} logs, " + ("endless" if left is None else f"{left} left"))

    def test_plays(self):
        source = random.Random(9)
        for judge in SMALL:
            for most in (0, 1, 3, 10):
                first = source.choice(verdicts_of(judge) + ("other",))
                rival = Rival(judge)

                def answers(history):
                    return kept(judge, history, first=first)[-1]

                history, told = rival.play(answers, most=most)
                self.assertEqual(told, kept(judge, history, first=first))
                many = number(judge)
                if many is None or most <= many:
                    self.assertEqual(flips(told), most)
                else:
                    self.assertGreaterEqual(flips(told), many)
                    if first in best_firsts(judge):
                        self.assertEqual(flips(told), many)
                self.assertEqual(self.state(rival), self.state(Rival(judge)))

    def test_ends_of_plays(self):
        rival = Rival(ONCE)
        self.assertEqual(rival.play(lambda past: "yes"), (((),), ("yes",)))
        self.assertEqual(rival.play(lambda past: "no"), (((), ("a",)), ("no", "no")))
        for value in NO_ANSWERS:
            self.assertEqual(rival.play(lambda past: value), (((),), (value,)))
            self.assertEqual(rival.play(lambda past: "no" if past == ((),) else value), (((), ("a",)), ("no", value)))
        self.assertEqual(rival.play(lambda past: "no", most=0), (((),), ("no",)))
        answers = {(): "no", ("a",): "yes", ("a", "a"): "no"}
        self.assertEqual(rival.play(lambda past: answers[past[-1]]), (((), ("a",), ("a", "a")), ("no", "yes", "no")))
        self.assertEqual(rival.play(lambda past: answers[past[-1]], most=1), (((), ("a",)), ("no", "yes")))
        self.assertEqual(Rival(FREE).play(lambda past: "any"), (((),), ("any",)))
        self.assertEqual(len(Rival(LAST).play(lambda past: verdict_of(LAST, past[-1]) or "x", most=60)[0]), 61)
        self.assertEqual(len(Rival(LAST).play(lambda past: verdict_of(LAST, past[-1]) or "x")[0]), 11)

    def test_a_play_goes_on(self):
        rival = Rival(LAST)
        self.assertEqual(rival.next("x"), ("b",))
        asked = []

        def answers(past):
            asked.append(past)
            self.assertEqual(rival.history, past)
            return verdict_of(LAST, past[-1])

        history, told = rival.play(answers, most=2)
        self.assertEqual(history, ((), ("b",), ("b", "a"), ("b", "a", "b")))
        self.assertEqual(told, ("x", "y", "x", "y"))
        self.assertEqual(asked, [history[:2], history[:3], history])
        self.assertEqual(self.state(rival), (((), ("b",)), ("x",), None, 1, "rival at 1 logs, endless"))
        # a wrong answer in front of all flips of the play
        self.assertEqual(rival.play(lambda past: "x"), (((), ("b",)), ("x", "x")))

    def test_an_error_of_the_call(self):
        rival = Rival(LAST)
        rival.next("y")
        before = self.state(rival)

        def answers(past):
            if len(past) == 4:
                raise KeyError("no answer")
            return verdict_of(LAST, past[-1])

        with self.assertRaises(KeyError):
            rival.play(answers)
        self.assertEqual(self.state(rival), before)

    def test_back(self):
        rival = Rival(LAST)
        states = [self.state(rival)]
        for answer in "xyxyxy":
            rival.next(answer)
            states.append(self.state(rival))
        self.assertEqual(rival.back(0), 6)
        for many in (1, 2, 3):
            self.assertEqual(rival.back(many), len(rival))
            self.assertEqual(self.state(rival), states[len(rival)])
        rival.next("x")
        self.assertEqual(self.state(rival), states[1])
        limited = Rival(ONCE)
        states = [self.state(limited)]
        for answer in ("no", "yes"):
            limited.next(answer)
            states.append(self.state(limited))
        self.assertEqual([state[2] for state in states], [2, 1, 0])
        for many in (1, 0):
            self.assertEqual(limited.back(), many)
            self.assertEqual(self.state(limited), states[many])
        plain.refused(self, NothingToUndo, rival.back, 2)
        self.assertEqual(rival.back(), 0)
        self.assertEqual(plain.refused(self, NothingToUndo, rival.back).many, 1)

    def test_long_logs(self):
        rival = Rival(LAST)
        answer = "x"
        for _ in range(230):
            log = rival.next(answer)
            answer = verdict_of(LAST, log[-1:])
        self.assertEqual(log, ("b", "a") * 115)
        self.assertEqual(rival.back(230), 0)

    def test_refusals_change_nothing(self):
        rival = Rival(ONCE)
        rival.next("no")
        before = self.state(rival)
        for value in NO_ANSWERS:
            self.assertEqual(plain.refused(self, UnknownName, rival.next, value).name, value)
        for value in ("no", "other"):
            plain.refused(self, InvalidOperation, rival.next, value)
        for value in NO_MOST:
            plain.refused(self, InvalidNumber, rival.play, lambda past: "yes", most=value)
        for value in plain.NO_NUMBERS + plain.SETS + (-1, -(10 ** 59)):
            plain.refused(self, InvalidNumber, rival.back, value)
        for value in (2, 10 ** 59):
            self.assertEqual(plain.refused(self, NothingToUndo, rival.back, value).many, value)
        self.assertEqual(self.state(rival), before)
        self.assertEqual(Rival(LAST).next("other"), ("a",))

    def test_judges_of_sets(self):
        judge = make_judge_by(AB, {"p": Logs.listing(AB, ("a", "b")), "q": Logs.listing(AB, ("a",), ("b", "a", "b"))})
        rival = Rival(judge)
        self.assertEqual([rival.left, rival.next("other"), rival.left, rival.next("q"), rival.next("p"), rival.next("q")],
                         [2, ("a",), 2, ("a", "b"), ("b", "a", "b"), None])


if __name__ == "__main__":
    unittest.main()
