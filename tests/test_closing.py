"""Moments: flips left, possible verdicts, turning logs, settled logs and closing papers."""

import unittest

import plain
from plain import AB, FREE, LAST, NO_JUDGES, ONCE, THREE, TURNS, label
from seldomflip.errors import InvalidJudge, InvalidLog, InvalidOperation, TooMany, UnknownName
from seldomflip.judges.judges import behind, logs_with, verdict_of, verdicts_of
from seldomflip.late.closing import (
    closing_paper, flips_left, is_closing_paper, possible, settled_logs, turning)
from seldomflip.sets.closures import below, below_of, first_over
from seldomflip.sets.logsets import Logs
from seldomflip.towers.swings import greatest_swing, is_swing, number
from seldomflip.towers.towers import heights, is_tower, reach, rounds
from test_swings import others_of
from test_towers import WIDE, WIDER, chain_judge

SMALL = plain.some_machines(141, 40, "ab", 4, (None, "p", "q")) + plain.some_machines(142, 30, "ab", 4, (None, "p", "q", "r")) + (
    plain.some_machines(143, 15, "a", 5, (None, "p", "q"))) + [LAST, ONCE, THREE, TURNS]
SMALL = [judge for judge in SMALL if verdicts_of(judge)]
FULL = plain.FULL
NEAR = ((2, 1, 3), (1, 4, 1), (4, 2, 2), (3, 3, 6), (5, 4, 4), (8, 5, 8), (9, 9, 7), (7, 7, 10), (11, 8, 8), (12, 12, 9), (10, 13, 13),
        (14, 11, 11), (15, 15, 12), (13, 16, 16), (17, 14, 14), (18, 15, 18), (16, 18, 18), (19, 17, 17), (18, 18, 19), (19, 19, 19))
OVER = ((2, 1, 3), (1, 4, 1), (4, 2, 2), (3, 3, 6), (5, 4, 4), (8, 5, 5), (9, 6, 7), (10, 7, 10), (11, 11, 8), (12, 12, 9), (10, 13, 13),
        (14, 11, 11), (15, 15, 15), (13, 16, 16), (17, 14, 14), (18, 15, 18), (16, 18, 18), (19, 17, 17), (18, 18, 19), (19, 19, 19))
CALLS = (flips_left, turning, closing_paper)


def moments(judge, most=2):
    """All moments with short logs."""
    logs = plain.all_logs(judge[0], most)
    for closed in logs:
        for late in logs:
            verdict = verdict_of(judge, closed + late)
            for answer in verdicts_of(judge):
                if verdict in (None, answer):
                    yield closed, late, answer


def plain_flips(judge, closed, late, answer, most):
    """The most flips of keeping answers over rows of logs with at most so many events behind the closed one."""
    logs = [log for log in plain.all_logs(judge[0], most) if plain.fits(late, log) and label(judge, closed + log) is not None]
    best = {}
    for log in logs[::-1]:
        verdict = label(judge, closed + log)
        later = [best[other] for other in best if plain.fits(log, other) and label(judge, closed + other) != verdict]
        best[log] = 1 + max(later, default=0)
    return max([best[log] for log in best if label(judge, closed + log) != answer], default=0)


class FlipsLeftTest(unittest.TestCase):

    def test_against_all_short_logs(self):
        equal = 0
        for judge in SMALL[::3]:
            for closed, late, answer in list(moments(judge))[::5]:
                found = plain.unchanged(self, flips_left, judge, closed, late, answer)
                least = plain_flips(judge, closed, late, answer, 5)
                self.assertLessEqual(least, 99 if found is None else found)
                equal += found == least
                if found is None:
                    self.assertIn(late, greatest_swing(behind(judge, closed)))
        self.assertGreater(equal, 150)

    def test_by_definition(self):
        for judge in SMALL:
            for closed, late, answer in list(moments(judge))[::3]:
                many = [times for verdict, times in reach(behind(judge, closed), late).items() if verdict != answer]
                wanted = None if None in many else max([0] + many)
                self.assertEqual(flips_left(judge, closed, late, answer), wanted)

    def test_never_rise(self):
        # [14.3]
        def worth(many):
            return 999 if many is None else many

        for judge in SMALL[::2]:
            for closed, late, answer in list(moments(judge))[::7]:
                many = worth(flips_left(judge, closed, late, answer))
                if late:
                    self.assertLessEqual(worth(flips_left(judge, closed + late[:1], late[1:], answer)), many)
                for place in range(len(late) + 1):
                    for letter in judge[0]:
                        more = late[:place] + (letter,) + late[place:]
                        verdict = verdict_of(judge, closed + more) or answer
                        left = worth(flips_left(judge, closed, more, verdict))
                        self.assertLessEqual(left, many)
                        if verdict != answer and many != 999:
                            self.assertLess(left, many)

    def test_ordinary(self):
        self.assertEqual([flips_left(ONCE, (), (), "no"), flips_left(ONCE, ("a",), (), "yes"), flips_left(ONCE, ("a", "a"), (), "no")],
                         [2, 1, 0])
        self.assertEqual([flips_left(TURNS, ("a", "b"), ("a",), "no"), flips_left(TURNS, (), ("a", "b"), "no")], [0, 0])
        self.assertIsNone(flips_left(LAST, (), (), "x"))
        self.assertIsNone(flips_left(LAST, ("a", "b"), ("b",), "y"))
        # the answer need not be a verdict that is still possible
        self.assertEqual([flips_left(THREE, ("a",), ("b",), answer) for answer in "pqr"], [0, 0, 0])
        self.assertEqual(flips_left(THREE, (), (), "p"), 1)
        self.assertEqual(flips_left(chain_judge(40), (), (), "p"), 39)
        self.assertEqual(flips_left(chain_judge(40), ("a",) * 30, ("a",) * 9, "q"), 0)

    def test_long_logs(self):
        self.assertIsNone(flips_left(LAST, FULL[:100], FULL[100:], "y"))
        self.assertIsNone(flips_left(LAST, FULL, (), "y"))
        self.assertEqual(turning(LAST, (), FULL, "y"), FULL[:199] + ("b", "a"))
        self.assertEqual(turning(LAST, FULL, (), "y"), ("a",))
        self.assertEqual(possible(LAST, FULL[:99], FULL[99:]), ("x", "y"))


class PossibleTest(unittest.TestCase):

    def test_against_all_short_logs(self):
        for judge in SMALL[::2] + [FREE]:
            for closed in plain.all_logs(judge[0], 2):
                for late in plain.all_logs(judge[0], 2):
                    found = plain.unchanged(self, possible, judge, closed, late)
                    met = {label(judge, closed + log) for log in plain.all_logs(judge[0], 7) if plain.fits(late, log)} - {None}
                    self.assertEqual(found, tuple(sorted(met)))

    def test_edges(self):
        self.assertEqual([possible(THREE, (), ()), possible(THREE, ("a",), ()), possible(THREE, ("a",), ("b",)), possible(FREE, (), ())],
                         [("p", "q", "r"), ("p",), (), ()])


class TurningTest(unittest.TestCase):

    def test_first(self):
        for judge in SMALL:
            for closed, late, answer in list(moments(judge))[::4]:
                found = plain.unchanged(self, turning, judge, closed, late, answer)
                small = behind(judge, closed)
                others = others_of(small, answer)
                self.assertEqual(found, first_over(others, late))
                self.assertEqual(found is None, flips_left(judge, closed, late, answer) == 0)
                for log in plain.all_logs(judge[0], 4):
                    if plain.fits(late, log) and label(judge, closed + log) not in (None, answer):
                        self.assertEqual(found, log)
                        break


class SettledTest(unittest.TestCase):

    def test_against_all_short_logs(self):
        for judge in SMALL:
            for answer in verdicts_of(judge):
                found = plain.unchanged(self, settled_logs, judge, answer)
                self.assertEqual(found, ~below(others_of(judge, answer)))
                for log in plain.all_logs(judge[0], 3):
                    if verdict_of(judge, log) in (None, answer):
                        self.assertEqual(log in found, flips_left(judge, (), log, answer) == 0)

    def test_edges(self):
        one = (AB, ((1, 0), (1, 1)), (None, "no"))
        self.assertEqual(settled_logs(one, "no"), Logs.everything(AB))
        self.assertEqual(settled_logs(LAST, "x"), Logs.nothing(AB))
        # a verdict that no log has is none
        plain.refused(self, UnknownName, settled_logs, one, "yes")

    def test_limit(self):
        # below the logs with x are 200, and 201, states
        for rows, goods, many in ((NEAR, "++++-++-+++++-+--++-", 200), (OVER, "++--+--+--+-+-+--++-", 201)):
            judge = (("a", "b", "c"), rows, tuple("x" if sign == "+" else None for sign in goods[:-1]) + ("y",))
            if many == 200:
                self.assertEqual(len(settled_logs(judge, "y")), 200)
                self.assertEqual(settled_logs(judge, "y"), ~below(logs_with(judge, "x")))
            else:
                self.assertEqual(plain.refused(self, TooMany, settled_logs, judge, "y").limit, 200)
                self.assertEqual(settled_logs(judge, "x"), Logs.nothing(judge[0]))


class PaperTest(unittest.TestCase):

    def test_papers(self):
        for judge in SMALL:
            for closed, late, answer in list(moments(judge))[::9]:
                paper = plain.unchanged(self, closing_paper, judge, closed, late, answer)
                self.assertIs(plain.unchanged(self, is_closing_paper, judge, closed, late, answer, paper), True)
                many = flips_left(judge, closed, late, answer)
                self.assertEqual(paper[0], "swing" if many is None else "flips")
                small = behind(judge, closed)
                if many is None:
                    self.assertTrue(is_swing(small, paper[1]) and late in paper[1])
                else:
                    self.assertEqual(len(paper[1]), many)
                    self.assertTrue(is_tower(small, paper[1]))
                self.changed(judge, (closed, late, answer), paper)

    def changed(self, judge, moment, paper):
        def is_paper(*value):
            return is_closing_paper(judge, *moment, value)

        self.assertFalse(is_paper(*paper[:-1]))
        self.assertFalse(is_paper(*paper, ()))
        self.assertFalse(is_paper("number", *paper[1:]))
        self.assertFalse(is_closing_paper(judge, *moment, list(paper)))
        closed, late, answer = moment
        small = behind(judge, closed)
        if paper[0] == "swing":
            self.assertFalse(is_paper("flips", (), ({one: Logs.everything(judge[0]) for one in verdicts_of(small)},)))
            self.assertFalse(is_paper("swing", Logs.nothing(judge[0])))
            self.assertFalse(is_paper("swing", Logs.sized(judge[0], most=3)))
            return
        _, tower, covers = paper
        self.assertEqual(is_paper("swing", greatest_swing(small)), late in greatest_swing(small))
        self.assertFalse(is_paper("flips", tower, covers + covers[-1:]))
        self.assertFalse(is_paper("flips", tower, covers[:-1]))
        if tower:
            self.assertFalse(is_paper("flips", tower[:-1], covers[:-1]))
            self.assertFalse(is_paper("flips", tower[1:], covers))
            self.assertFalse(is_paper("flips", tower[1:], covers[1:]))
        for verdict in verdicts_of(small):
            wide = {**covers[-1], verdict: Logs.everything(judge[0])}
            wanted = verdict == answer and tower == ()
            if tower == ():
                self.assertEqual(is_paper("flips", (), (wide,)), wanted)
            elif verdict != answer:
                self.assertFalse(is_paper("flips", tower, covers[:-1] + (wide,)))

    def test_made_by_hand(self):
        small = {"no": Logs.everything(AB), "yes": below_of(AB, (("b",),))}
        # the covers must contain all logs with their verdicts
        self.assertFalse(is_closing_paper(ONCE, ("a", "a"), (), "no", ("flips", (), (small,))))
        self.assertTrue(is_closing_paper(ONCE, ("a", "a"), (), "no", ("flips", (), ({"no": Logs.everything(AB)},))))
        first = {"no": Logs.everything(AB), "yes": Logs((AB, ((1, 0), (2, 1), (2, 2)), (True, True, False)))}
        self.assertTrue(is_closing_paper(ONCE, (), ("a", "a"), "no", ("flips", (), (first,))))
        second = {"no": first["yes"], "yes": Logs.nothing(AB)}
        # only the last cover may hold the late log for no verdict but the answer
        no_heights = heights(behind(ONCE, ("a",)))
        self.assertEqual(no_heights, {"no": 1, "yes": 2})
        covers = ({"no": Logs.everything(AB), "yes": Logs.listing_of(AB, tuple(("b",) * many for many in range(3)))},)
        self.assertFalse(is_closing_paper(ONCE, ("a",), (), "yes", ("flips", (("a",),), covers + (second,))))
        bs = Logs((AB, ((1, 0), (1, 1)), (True, False)))
        covers = ({"no": Logs.everything(AB), "yes": bs}, {"no": Logs.nothing(AB), "yes": bs})
        self.assertTrue(is_closing_paper(ONCE, ("a",), (), "yes", ("flips", (("b", "a", "b"),), covers)))
        self.assertFalse(is_closing_paper(ONCE, ("a",), (), "yes", ("flips", (("b",),), covers)))
        self.assertFalse(is_closing_paper(ONCE, ("a",), ("b", "b"), "yes", ("flips", (("b", "a"),), covers)))
        self.assertTrue(is_closing_paper(ONCE, ("a",), ("b", "b"), "yes", ("flips", (("b",) * 300 + ("a",),), covers)))
        # only the first log of the tower counts
        _, tower, covers = closing_paper(ONCE, (), ("b",), "no")
        self.assertEqual((len(tower), len(covers)), (2, 3))
        for other, wanted in (((("a", "b"), ("a", "b", "a")), True), ((("a",), ("b", "a", "a")), False)):
            self.assertIs(is_closing_paper(ONCE, (), ("b",), "no", ("flips", other, covers)), wanted)
        steps = tuple(rounds(ONCE))
        self.assertTrue(is_closing_paper(ONCE, (), ("a",), "yes", ("flips", (("a", "a"),), steps[:2])))
        self.assertFalse(is_closing_paper(ONCE, (), ("a",), "yes", ("flips", (("a",), ("a", "a")), steps[:3])))
        # swings that are less than the greatest one
        judge = (("a", "b", "d"), ((1, 2, 0), (1, 2, 1), (1, 2, 2)), (None, "x", "y"))
        less = Logs((judge[0], ((0, 0, 1), (1, 1, 1)), (True, False)))
        self.assertTrue(is_closing_paper(judge, ("d",), ("a",), "x", ("swing", less)))
        self.assertFalse(is_closing_paper(judge, ("a",), ("d",), "x", ("swing", less)))

    def test_accepts_every_value(self):
        for value in plain.OTHERS + plain.NUMBERS + plain.SETS + (
                (), ("flips",), ("swing",), ("swing", None), ("flips", (), ()), ("flips", None, None), ("swing", LAST),
                ("flips", (), ({},)), ("flips", (), [{}]), (Logs.everything(AB), ()), ("swing", Logs.everything(("a",)))):
            self.assertIs(is_closing_paper(LAST, (), (), "x", value), False)
            self.assertIs(is_closing_paper(ONCE, (), (), "no", value), False)


class WrongTest(unittest.TestCase):

    def test_refuses(self):
        for judge in NO_JUDGES[::5]:
            for call in CALLS:
                plain.refused(self, InvalidJudge, call, judge, None, None, None)
            plain.refused(self, InvalidJudge, possible, judge, None, None)
            plain.refused(self, InvalidJudge, settled_logs, judge, None)
            plain.refused(self, InvalidJudge, is_closing_paper, judge, None, None, None, None)
        for log in plain.WRONG_LOGS:
            for call in CALLS:
                plain.refused(self, InvalidLog, call, ONCE, log, None, None)
                plain.refused(self, InvalidLog, call, ONCE, (), log, None)
            plain.refused(self, InvalidLog, possible, ONCE, log, None)
            plain.refused(self, InvalidLog, possible, ONCE, (), log)
            plain.refused(self, InvalidLog, is_closing_paper, ONCE, log, None, None, None)
            plain.refused(self, InvalidLog, is_closing_paper, ONCE, (), log, None, None)
        for name in plain.NO_NAMES + (None, "maybe"):
            for call in CALLS:
                self.assertEqual(plain.refused(self, UnknownName, call, ONCE, (), ("a",), name).name, name)
            plain.refused(self, UnknownName, is_closing_paper, ONCE, (), (), name, None)
            self.assertEqual(plain.refused(self, UnknownName, settled_logs, ONCE, name).name, name)
        # a verdict that no log has, and one that no log behind the closed one has
        never = (AB, ((0, 0), (1, 1)), ("no", "yes"))
        for call in CALLS:
            plain.refused(self, UnknownName, call, never, (), (), "yes")
            call(THREE, ("a",), ("b",), "q")
            plain.refused(self, InvalidOperation, call, ONCE, (), ("a",), "no")
            plain.refused(self, InvalidOperation, call, ONCE, ("a",), ("a",), "yes")
        plain.refused(self, InvalidOperation, is_closing_paper, ONCE, (), ("a",), "no", None)

    def test_events_together(self):
        long = FULL[:101]
        for call in CALLS:
            call(LAST, FULL[:100], FULL[100:], "y")
            plain.refused(self, InvalidLog, call, LAST, FULL[:100], long, "nobody")
        plain.refused(self, InvalidLog, possible, LAST, FULL, ("a",))
        plain.refused(self, InvalidLog, is_closing_paper, LAST, long, FULL[:100], None, None)

    def test_too_many(self):
        first = [answer for answer in verdicts_of(WIDER) if verdict_of(WIDER, ()) in (None, answer)][0]
        for call in (flips_left, closing_paper):
            self.assertEqual(plain.refused(self, TooMany, call, WIDER, (), (), first).limit, 200)
        # these need no rounds, and neither do moments behind which the rounds are small
        self.assertIsNotNone(turning(WIDER, (), (), first))
        self.assertFalse(is_closing_paper(WIDER, (), (), first, None))
        log = ("a", "b", "c") * 12
        for answer in verdicts_of(WIDER):
            if verdict_of(WIDER, log) in (None, answer):
                flips_left(WIDER, log, (), answer)
        self.assertIsNotNone(number(WIDE))


if __name__ == "__main__":
    unittest.main()
