"""Towers, rounds, heights and height papers."""

import random
import unittest
from unittest import mock

import plain
from plain import AB, FREE, LAST, NO_JUDGES, ONCE, THREE, TURNS, label
from seldomflip.errors import InvalidJudge, InvalidLog, InvalidNumber, InvalidOperation, TooMany, Unlimited, UnknownName
from seldomflip.judges.histories import fewest_flips, kept
from seldomflip.judges.judges import behind, logs_with, make_judge_by, verdicts_of
from seldomflip.sets import guessing, spreads
from seldomflip.sets.closures import below, inside_down, is_closed_down
from seldomflip.sets.logsets import Logs
from seldomflip.towers.rounds import all_rounds
from seldomflip.towers.towers import (
    height, height_paper, heights, highest_tower, is_height_paper, is_tower, reach, round_of, rounds, tower_above)

SMALL = plain.some_machines(61, 90, "ab", 4, (None, "p", "q")) + plain.some_machines(62, 60, "ab", 4, (None, "p", "q", "r")) + (
    plain.some_machines(63, 20, "a", 5, (None, "p", "q")))
LINE = ("a",)
TOO_LONG = plain.TOO_LONG
NO_ROUNDS = plain.NO_NUMBERS + plain.SETS + (0, -1, -(10 ** 59))
# with these a round, the fifth one and the fourth one, has 200 and 201 states
WIDE = (("a", "b", "c"), (
    (1, 2, 3), (3, 4, 3), (1, 1, 1), (4, 5, 6), (5, 7, 5), (7, 6, 7), (8, 9, 8), (9, 10, 9), (11, 10, 11), (11, 10, 11),
    (12, 12, 11), (13, 12, 14), (15, 15, 14), (16, 17, 15), (15, 15, 13), (17, 16, 17), (18, 18, 18), (18, 16, 16),
    (18, 18, 18)), (None, "y", "y", None, "x", None, None, None, "x", None, None, "x", None, None, "x", None, "x", None, "y"))
WIDER = (("a", "b", "c"), (
    (1, 2, 2), (3, 3, 4), (5, 4, 5), (6, 7, 8), (3, 9, 9), (10, 3, 1), (8, 11, 8), (6, 12, 12), (11, 13, 14), (3, 10, 3),
    (14, 14, 8), (15, 16, 17), (13, 17, 13), (18, 15, 15), (16, 13, 15), (18, 17, 17), (19, 20, 20), (20, 21, 22),
    (20, 22, 20), (22, 22, 22), (19, 19, 19), (21, 21, 21), (21, 21, 21)), (
    None, None, None, "y", "x", "y", None, "y", "y", None, "x", "x", None, "x", None, "y", "y", "x", None, None, "x", "y",
    None))

# its rounds are found by way of masks that are filled
LOOPS = (("a", "b", "c", "d"), ((2, 2, 1, 0), (1, 2, 1, 2), (4, 3, 3, 3), (4, 5, 4, 3), (4, 6, 6, 6), (7, 5, 7, 5),
    (8, 6, 6, 7), (8, 8, 7, 7), (9, 9, 9, 9), (9, 9, 9, 11), (11, 11, 11, 11), (13, 12, 12, 11), (14, 12, 13, 13),
    (14, 15, 14, 13), (14, 15, 13, 15), (16, 17, 16, 16), (16, 18, 17, 17), (18, 17, 19, 18), (19, 18, 20, 20), (20,
    19, 19, 20), (21, 21, 22, 21), (22, 20, 23, 23), (22, 24, 22, 24), (25, 25, 25, 24), (24, 26, 24, 25), (25, 25,
    26, 27), (27, 28, 27, 28), (27, 28, 27, 28), (29, 29, 29, 29), (29, 29, 29, 29)), (None, "v", None, None, None,
    None, None, "x", "x", None, "y", "v", "x", "x", None, "x", "x", "v", None, None, None, None, "z", "v", "y", "x",
    None, "y", "x", "v"))


def chain_judge(many):
    """A judge of a's with the verdicts of these logs in turn; its towers are as high as there are states."""
    return plain.tail_judge(tuple("pq"[at % 2] for at in range(many)), many - 1)


def high_judge(row, first):
    """A judge with forty states and high towers: with d it goes on to the next one of five parts."""
    part = ((7, 3, 1), (3, 1, 3), (2, 4, 4), (4, 2, 5), (6, 4, 5), (5, 5, 6), (7, 6, 6), (7, 7, 7))
    last = ((7, 3, 1, 4), (3, 1, 3, 1), (2, 4, 2, 2), row, (6, 4, 5, 6), (5, 5, 6, 5), (7, 6, 6, 6), (7, 7, 7, 7))
    rows = [tuple(begin + state for state in row + (8,)) for begin in (0, 8, 16, 24) for row in part]
    rows += [tuple(32 + state for state in row) for row in last]
    return (("a", "b", "c", "d"), tuple(rows), (first,) + tuple("xxyyyxy") + tuple("xxxyyyxy") * 4)


def with_swing(judge):
    """Behind a it is the judge; behind d the last event decides, so there is no end of the towers."""
    dead = len(judge[1]) + 4
    last = dead - 3
    rows = ((1, dead, dead, last),) + tuple(tuple(state + 1 for state in row) + (dead,) for row in judge[1])
    rows += ((last + 1, last + 2, dead, dead),) * 3 + ((dead,) * 4,)
    return (("a", "b", "c", "d"), rows, (None,) + judge[2] + (None, "x", "y", None))


def plain_rounds(judge):
    """The rounds by their definition, from sets of logs."""
    verdicts = verdicts_of(judge)
    with_verdict = {verdict: logs_with(judge, verdict) for verdict in verdicts}
    found = [{verdict: below(with_verdict[verdict]) for verdict in verdicts}]
    while True:
        following = {}
        for verdict in verdicts:
            others = Logs.nothing(judge[0])
            for other in verdicts:
                if other != verdict:
                    others = others | found[-1][other]
            following[verdict] = below(with_verdict[verdict] & others)
        if following == found[-1]:
            return found
        found.append(following)


def best_towers(judge, most):
    """For each log of at most so many events that is not free the height of the highest tower of such logs from it."""
    logs = [log for log in plain.all_logs(judge[0], most) if label(judge, log) is not None][::-1]
    found = {}
    for at, log in enumerate(logs):
        over = [found[one] for one in logs[:at] if label(judge, one) != label(judge, log) and below_it(log, one)]
        found[log] = 1 + max(over, default=0)
    return found


def below_it(log, other):
    places = iter(other)
    return all(event in places for event in log)


def is_plain_tower(judge, value):
    verdicts = [label(judge, log) for log in value]
    if None in verdicts or any(one == other for one, other in zip(verdicts, verdicts[1:])):
        return False
    return all(below_it(log, other) for log, other in zip(value, value[1:]))


class IsTowerTest(unittest.TestCase):

    def test_all_short_ones(self):
        logs = plain.all_logs("ab", 2)
        for judge in (LAST, ONCE, TURNS, FREE) + tuple(SMALL[:20]):
            for one in logs:
                self.assertIs(is_tower(judge, (one,)), is_plain_tower(judge, (one,)))
                for other in logs:
                    self.assertIs(is_tower(judge, (one, other)), is_plain_tower(judge, (one, other)))
        for judge in (LAST, THREE, FREE):
            self.assertIs(plain.unchanged(self, is_tower, judge, ()), True)

    def test_ordinary(self):
        self.assertIs(plain.unchanged(self, is_tower, ONCE, (("b",), ("b", "a"), ("a", "b", "a"))), True)
        for value in ((("b",), ("a",), ("a", "a")), (("a",), ("b", "a")), ((), ("a", "a")), (("a",), ("b",))):
            self.assertIs(is_tower(ONCE, value), False)

    def test_long_logs(self):
        tower = tuple(("a", "b") * 200 + ("b", "a") * at for at in range(1, 3))
        self.assertIs(is_tower(LAST, (("b",) * 300, ("b",) * 300 + ("a",))), True)
        self.assertIs(is_tower(LAST, tower), False)
        self.assertIs(is_tower(chain_judge(2), ((), ("a",) * 1000)), True)

    def test_accepts_every_value(self):
        for value in plain.NO_LOGS + plain.SETS:
            if value not in ((), TOO_LONG, plain.FULL + ("a",)):
                for tower in ((value,), (("a",), value), (value, ("a",))):
                    self.assertIs(plain.unchanged(self, is_tower, LAST, tower), False, tower)
        for value in plain.OTHERS + plain.NUMBERS + plain.SETS + (("a",), [("a",)], [], (("c",),), (("a",), ("a", "c"))):
            self.assertIs(is_tower(LAST, value), False, value)

    def test_refuses(self):
        for value in NO_JUDGES:
            plain.refused(self, InvalidJudge, is_tower, value, ())


class RoundsTest(unittest.TestCase):

    def test_against_sets(self):
        for judge in SMALL + [LAST, ONCE, TURNS, FREE, THREE]:
            wanted = plain_rounds(judge)
            found = list(rounds(judge))
            self.assertEqual(found, wanted)
            for at, step in enumerate(found):
                self.assertEqual(list(step), list(verdicts_of(judge)))
                for verdict in step:
                    self.assertIs(is_closed_down(step[verdict]), True)
                    self.assertEqual(round_of(judge, verdict, at + 1), step[verdict])
            for verdict in verdicts_of(judge):
                for number in (len(found) + 1, len(found) + 5, 10 ** 59):
                    self.assertEqual(round_of(judge, verdict, number), found[-1][verdict])

    def test_against_all_short_towers(self):
        for judge in SMALL[:60]:
            best = best_towers(judge, 5)
            found = list(rounds(judge))
            for number, step in enumerate(found, 1):
                for verdict, logs in step.items():
                    for log in plain.all_logs(judge[0], 2):
                        towers = any(many >= number and label(judge, one) == verdict and below_it(log, one)
                                     for one, many in best.items())
                        # a tower of longer logs may be needed
                        self.assertTrue(log in logs or not towers)

    def test_ordinary(self):
        self.assertEqual([{name: len(step[name]) for name in step} for step in rounds(ONCE)],
                         [{"no": 1, "yes": 3}, {"no": 2, "yes": 3}, {"no": 2, "yes": 1}, {"no": 1, "yes": 1}])
        self.assertEqual(plain.unchanged(self, round_of, ONCE, "yes", 1), Logs((AB, ((1, 0), (2, 1), (2, 2)), (True, True, False))))

    def test_judges_without_verdicts(self):
        for judge in (FREE, (LINE, ((0,), (0,)), (None, "no"))):
            self.assertEqual(list(rounds(judge)), [{}])
            self.assertEqual([heights(judge), reach(judge, ("a",))], [{}, {}])
            self.assertEqual(plain.refused(self, UnknownName, height, judge, "no").name, "no")

    def test_one_verdict(self):
        judge = (LINE, ((1,), (2,), (2,)), (None, "no", None))
        self.assertEqual([[len(step["no"]) for step in rounds(judge)], heights(judge)], [[3, 1], {"no": 1}])
        self.assertEqual(heights((LINE, ((0,),), ("no",))), {"no": 1})

    def test_copies(self):
        first = list(rounds(ONCE))
        for step in first:
            step.clear()
        self.assertEqual([len(step) for step in rounds(ONCE)], [2, 2, 2, 2])
        found = heights(ONCE)
        found.clear()
        self.assertEqual(heights(ONCE), {"no": 3, "yes": 2})

    def test_states(self):
        sizes = [len(step[name]) for step in rounds(WIDE) for name in step]
        self.assertEqual([max(sizes), sizes.count(200)], [200, 2])
        self.assertEqual(heights(WIDE), {"x": 10, "y": 11})
        for call, rest in ((round_of, ("x", 1)), (heights, ()), (height, ("x",)), (reach, ((),)), (tower_above, ("x", 1)),
                           (highest_tower, ("x",)), (height_paper, ("x",))):
            self.assertEqual(plain.refused(self, TooMany, call, WIDER, *rest).limit, 200)
        with self.assertRaises(TooMany) as caught:
            next(rounds(WIDER))
        self.assertEqual(caught.exception.limit, 200)
        # ahead of the errors that come behind it
        self.assertEqual(plain.refused(self, TooMany, tower_above, WIDER, "x", 10 ** 59).limit, 200)
        # and behind those of the parameters
        plain.refused(self, UnknownName, round_of, WIDER, "z", 0)
        plain.refused(self, InvalidNumber, round_of, WIDER, "x", 0)
        plain.refused(self, InvalidLog, reach, WIDER, ("d",))
        plain.refused(self, InvalidLog, tower_above, WIDER, "x", 1, start=("d",))

    def test_too_many_states_come_ahead_of_unlimited(self):
        for name in ("x", "y"):
            plain.refused(self, Unlimited, highest_tower, with_swing(THREE), name)
            self.assertEqual(height_paper(with_swing(THREE), name)[0], "swing")
            for call in (highest_tower, height_paper):
                self.assertEqual(plain.refused(self, TooMany, call, with_swing(WIDER), name).limit, 200)

    def test_forty_states(self):
        judge = chain_judge(40)
        self.assertEqual(heights(judge), {"p": 40, "q": 39})
        self.assertEqual(len(list(rounds(judge))), 41)
        self.assertEqual([reach(judge, ("a",) * many) for many in (0, 1, 38, 39, 200)],
                         [{"p": 40, "q": 39}, {"p": 38, "q": 39}, {"p": 2, "q": 1}, {"p": 0, "q": 1}, {"p": 0, "q": 1}])
        self.assertEqual(highest_tower(judge, "p"), tuple(("a",) * many for many in range(40)))
        self.assertEqual(highest_tower(judge, "q"), tuple(("a",) * many for many in range(1, 40)))
        one = plain.some_machines(64, 1, "ab", 1, ("p",))[0]
        self.assertEqual([heights(one), len(list(rounds(one)))], [{"p": 1}, 2])

    def test_each_way_alone(self):
        # with patience for all masks none of them is filled
        with mock.patch.object(spreads, "PATIENCE", 10 ** 9):
            wanted = list(rounds(LOOPS))
        self.assertEqual(list(rounds(LOOPS)), wanted)
        for judge in SMALL[::7]:
            wanted = list(rounds(judge))
            with mock.patch.object(spreads, "PATIENCE", 1), mock.patch.object(guessing, "MANY_TESTS", 1):
                self.assertEqual(list(rounds(judge)), wanted)
                with mock.patch.object(spreads, "MORE_PATIENCE", 1):
                    self.assertEqual(list(rounds(judge)), wanted)

    def test_many_rounds(self):
        # forty rounds come before the first one at rest
        self.assertEqual(len(all_rounds(chain_judge(40), 40)), 41)
        self.assertEqual(plain.refused(self, TooMany, all_rounds, chain_judge(40), 39).limit, 39)

    def test_200_rounds(self):
        judge = high_judge((4, 2, 5, 3), "x")
        self.assertEqual(len(list(rounds(judge))), 201)
        self.assertEqual([heights(judge), height(judge, "y")], [{"x": 200, "y": 199}, 199])
        paper = height_paper(judge, "x")
        self.assertEqual([len(paper[1]), len(paper[2])], [200, 201])
        # its last logs have more than 200 events
        self.assertGreater(len(paper[1][-1]), 200)
        self.assertIs(is_plain_tower(judge, paper[1]), True)
        self.assertIs(is_height_paper(judge, "x", paper), True)
        self.assertEqual(highest_tower(judge, "x"), paper[1])
        self.assertEqual(tower_above(judge, "y", 199)[0], highest_tower(judge, "y")[0])

    def test_201_rounds(self):
        judge = high_judge((7, 2, 5, 3), None)
        self.assertEqual(len(all_rounds(judge, 201)), 202)
        for call, rest in ((round_of, ("x", 1)), (heights, ()), (height, ("x",)), (reach, ((),)), (tower_above, ("x", 1)),
                           (tower_above, ("x", 10 ** 59)), (highest_tower, ("x",)), (height_paper, ("x",))):
            self.assertEqual(plain.refused(self, TooMany, call, judge, *rest).limit, 200)
        with self.assertRaises(TooMany):
            next(rounds(judge))
        self.assertIs(is_height_paper(judge, "x", ("height", (), ())), False)

    def test_five_verdicts(self):
        verdicts = tuple("pqrst"[at % 5] for at in range(38)) + (None, None)
        judge = plain.tail_judge(verdicts, 39)
        self.assertEqual(heights(judge), {"p": 38, "q": 37, "r": 36, "s": 35, "t": 34})
        paper = height_paper(judge, "t")
        self.assertIs(is_height_paper(judge, "t", paper), True)
        self.assertEqual(len(paper[1]), 34)

    def test_refuses(self):
        for value in NO_JUDGES:
            started = rounds(value)
            with self.assertRaises(InvalidJudge):
                next(started)
            plain.refused(self, InvalidJudge, heights, value)
            plain.refused(self, InvalidJudge, round_of, value, None, 0)
            for call in (height, highest_tower, height_paper, reach):
                plain.refused(self, InvalidJudge, call, value, None)
            plain.refused(self, InvalidJudge, tower_above, value, None, 0, start=None)
            plain.refused(self, InvalidJudge, is_height_paper, value, None, None)
        for value in plain.NO_NAMES + ("x", "nox"):
            for call, rest in ((round_of, (0,)), (height, ()), (highest_tower, ()), (height_paper, ()), (tower_above, (0,)),
                               (is_height_paper, (None,))):
                self.assertEqual(plain.refused(self, UnknownName, call, ONCE, value, *rest).name, value)
        for value in NO_ROUNDS:
            self.assertEqual(plain.refused(self, InvalidNumber, round_of, ONCE, "no", value).value, value)
            self.assertEqual(plain.refused(self, InvalidNumber, tower_above, ONCE, "no", value, start=None).value, value)
        for value in plain.WRONG_LOGS:
            plain.refused(self, InvalidLog, reach, ONCE, value)
            plain.refused(self, InvalidLog, tower_above, ONCE, "no", 9, start=value)


class HeightsTest(unittest.TestCase):

    def test_against_all_short_towers(self):
        for judge in SMALL:
            best = best_towers(judge, 5)
            found = plain.unchanged(self, heights, judge)
            self.assertEqual(list(found), list(verdicts_of(judge)))
            for verdict, wanted in found.items():
                self.assertEqual(height(judge, verdict), wanted)
                known = max([many for log, many in best.items() if label(judge, log) == verdict], default=0)
                if wanted is None:
                    tower = tower_above(judge, verdict, 12)
                    self.assertEqual(len(tower), 12)
                    self.assertIs(is_plain_tower(judge, tower), True)
                else:
                    self.assertLessEqual(known, wanted)
                    tower = highest_tower(judge, verdict)
                    self.assertEqual(len(tower), wanted)
                    self.assertIs(is_plain_tower(judge, tower), True)
                    plain.refused(self, InvalidOperation, tower_above, judge, verdict, wanted + 1)
                    if len(tower[-1]) <= 5:
                        self.assertEqual(known, wanted)

    def test_reach(self):
        for judge in SMALL:
            found = list(rounds(judge))
            for log in plain.all_logs(judge[0], 3):
                wanted = {}
                for verdict in verdicts_of(judge):
                    numbers = [number for number, step in enumerate(found, 1) if log in step[verdict]]
                    wanted[verdict] = None if log in found[-1][verdict] else max(numbers, default=0)
                self.assertEqual(plain.unchanged(self, reach, judge, log), wanted)

    def test_reach_edges(self):
        self.assertEqual(reach(LAST, plain.FULL), {"x": None, "y": None})
        self.assertEqual(reach(ONCE, plain.FULL), {"no": 1, "yes": 0})
        self.assertEqual(reach(chain_judge(40), ("a",) * 37), {"p": 2, "q": 3})

    def test_first_towers(self):
        for judge in SMALL[:110]:
            best = best_towers(judge, 5)
            for verdict in verdicts_of(judge):
                for number in (1, 2, 3, 4):
                    for start in ((), ("a",), ("b",), ("b", "a")):
                        if set(start) <= set(judge[0]):
                            self.check_first(judge, best, verdict, number, start)

    def check_first(self, judge, best, verdict, number, start):
        if start not in round_of(judge, verdict, number):
            plain.refused(self, InvalidOperation, tower_above, judge, verdict, number, start=start)
            known = [log for log, many in best.items()
                     if many >= number and label(judge, log) == verdict and below_it(start, log)]
            self.assertEqual(known, [])
            return
        tower = plain.unchanged(self, tower_above, judge, verdict, number, start=start)
        self.assertEqual((len(tower), label(judge, tower[0])), (number, verdict))
        self.assertIs(is_tower(judge, tower), True)
        self.assertIs(below_it(start, tower[0]), True)
        if len(tower[-1]) > 5:
            return
        last = start
        for at, log in enumerate(tower):
            known = [one for one, many in best.items() if many >= number - at and below_it(last, one)
                     and (label(judge, one) == verdict if at == 0 else label(judge, one) != label(judge, last))]
            self.assertEqual(log, plain.in_order(known)[0])
            last = log

    def test_ordinary(self):
        self.assertEqual(plain.unchanged(self, highest_tower, ONCE, "yes"), (("a",), ("a", "a")))
        self.assertEqual(plain.unchanged(self, tower_above, LAST, "x", 3), (("a",), ("a", "b"), ("a", "b", "a")))
        self.assertEqual(plain.unchanged(self, tower_above, ONCE, "yes", 1, start=("b", "b")), (("a", "b", "b"),))
        self.assertEqual(heights(THREE), {"p": 1, "q": 1, "r": 1})

    def test_long_towers(self):
        tower = tower_above(LAST, "x", 250)
        self.assertEqual([len(log) for log in tower], list(range(1, 251)))
        self.assertIs(is_tower(LAST, tower), True)
        tower = tower_above(LAST, "y", 3, start=plain.FULL)
        self.assertEqual([len(log) for log in tower], [200, 201, 202])
        ends = tower_above(ONCE, "no", 1, start=plain.FULL)
        self.assertEqual(ends, (plain.FULL,))
        self.assertEqual(tower_above(ONCE, "no", 3), ((), ("a",), ("a", "a")))
        starts = tower_above(ONCE, "no", 3, start=("b",) * 200)
        self.assertEqual(starts, (("b",) * 200, ("a",) + ("b",) * 200, ("a", "a") + ("b",) * 200))

    def test_unlimited(self):
        for verdict in ("x", "y"):
            error = plain.refused(self, Unlimited, highest_tower, LAST, verdict)
            self.assertEqual(error.swing, Logs.everything(AB))
        met = 0
        for judge in SMALL:
            for verdict, many in heights(judge).items():
                if many is None:
                    met += 1
                    swing = plain.refused(self, Unlimited, highest_tower, judge, verdict).swing
                    wanted = Logs.nothing(judge[0])
                    for logs in list(rounds(judge))[-1].values():
                        wanted = wanted | logs
                    self.assertEqual(swing, wanted)
        self.assertGreater(met, 50)

    def test_free_logs_at_the_beginning(self):
        # two swings over letters of their own: the greatest one is their union
        rows = ((1, 2, 3, 4), (1, 2, 5, 5), (1, 2, 5, 5), (5, 5, 3, 4), (5, 5, 3, 4), (5, 5, 5, 5))
        judge = (("a", "b", "c", "d"), rows, (None, "p", "q", "r", "s", None))
        self.assertEqual(heights(judge), {"p": None, "q": None, "r": None, "s": None})
        swing = plain.refused(self, Unlimited, highest_tower, judge, "r").swing
        self.assertEqual([log in swing for log in (("a", "b"), ("c", "d"), ("a", "c"), ("c", "b"))], [True, True, False, False])

    def test_empty_log_with_a_verdict(self):
        for judge in SMALL:
            first = label(judge, ())
            found = heights(judge)
            if first is not None and len(found) > 1:
                others = [many for verdict, many in found.items() if verdict != first]
                self.assertTrue(found[first] is None or None not in others and found[first] > max(others))

    def test_two_verdicts_differ_by_at_most_one(self):
        for judge in SMALL:
            if len(verdicts_of(judge)) == 2:
                one, other = heights(judge).values()
                self.assertTrue(one == other or abs(one - other) == 1)

    def test_keeping_answers(self):
        for judge in SMALL[:60]:
            found = heights(judge)
            for verdict, many in found.items():
                if many is not None and label(judge, ()) is None:
                    tower = highest_tower(judge, verdict)
                    if len(tower[-1]) <= 200:
                        self.assertEqual(fewest_flips(judge, ((),) + tower, first="z"), many)
                        self.assertEqual(kept(judge, ((),) + tower, first=verdict)[0], verdict)
            rest = behind(judge, ("a",))
            for verdict, many in heights(rest).items():
                self.assertTrue(found[verdict] is None or many is not None and many <= found[verdict])


def changed_covers(covers, at, verdict, logs):
    return covers[:at] + ({**covers[at], verdict: logs},) + covers[at + 1:]


class PapersTest(unittest.TestCase):

    def test_papers(self):
        kinds = {"height": 0, "swing": 0}
        for judge in SMALL + [LAST, ONCE, TURNS, THREE]:
            found = list(rounds(judge))
            for verdict, many in heights(judge).items():
                paper = plain.unchanged(self, height_paper, judge, verdict)
                kinds[paper[0]] += 1
                self.assertEqual((paper[0], len(paper)), ("swing" if many is None else "height", 3))
                self.assertIs(is_height_paper(judge, verdict, paper), True)
                if many is None:
                    self.check_swing(judge, verdict, paper)
                else:
                    self.check_height(judge, verdict, paper, found)
                for other in verdicts_of(judge):
                    if other != verdict:
                        self.assertIs(is_height_paper(judge, other, paper), False)
        self.assertGreater(min(kinds.values()), 50)

    def check_height(self, judge, verdict, paper, found):
        _, tower, covers = paper
        self.assertIs(is_plain_tower(judge, tower), True)
        self.assertEqual((len(tower), label(judge, tower[0])), (height(judge, verdict), verdict))
        self.assertEqual(len(covers), len(tower) + 1)
        self.assertFalse(covers[-1][verdict])
        for cover, step in zip(covers, found):
            self.assertEqual(list(cover), list(verdicts_of(judge)))
            for name in cover:
                self.assertIs(step[name].is_within(cover[name]), True)
        # less than what a round contains is no cover, and neither are fewer or more covers
        for at in range(len(covers)):
            for name in covers[at]:
                if found[at][name] == covers[at][name]:
                    for log in found[at][name].listed(longest=2):
                        fewer = inside_down(found[at][name] - Logs.listing(judge[0], log))
                        less = changed_covers(covers, at, name, fewer)
                        self.assertIs(is_height_paper(judge, verdict, ("height", tower, less)), False)
        for wrong in (covers[:-1], covers[1:], covers + covers[-1:], (), covers[:1] + covers):
            self.assertIs(is_height_paper(judge, verdict, ("height", tower, wrong)), False)
        for wrong in (tower[:-1], tower[1:], tower + tower[-1:], ()):
            self.assertIs(is_height_paper(judge, verdict, ("height", wrong, covers)), False)

    def check_swing(self, judge, verdict, paper):
        _, swing, log = paper
        self.assertIn(log, swing)
        self.assertEqual(label(judge, log), verdict)
        self.assertIs(is_closed_down(swing), True)
        self.assertEqual(swing, plain.refused(self, Unlimited, highest_tower, judge, verdict).swing)
        for one in swing.listed(longest=2):
            above = {label(judge, other) for other in swing.listed(longest=7) if below_it(one, other)} - {None}
            self.assertGreater(len(above), 1)

    def test_greater_covers(self):
        # more than the rounds may be told, as long as each dict holds what follows from the one before
        everything = Logs.everything(AB)
        no, yes = below(logs_with(ONCE, "no")), below(logs_with(ONCE, "yes"))
        paper = height_paper(ONCE, "yes")
        covers = paper[2]
        self.assertEqual([len(covers), len(paper[1])], [3, 2])
        more = changed_covers(covers, 0, "yes", everything)
        self.assertIs(is_height_paper(ONCE, "yes", paper), True)
        self.assertIs(is_height_paper(ONCE, "yes", ("height", paper[1], more)), False)
        more = changed_covers(covers, 1, "yes", everything)
        self.assertIs(is_height_paper(ONCE, "yes", ("height", paper[1], more)), False)
        more = changed_covers(more, 2, "no", everything)
        self.assertIs(plain.unchanged(self, is_height_paper, ONCE, "yes", ("height", paper[1], more)), True)
        more = changed_covers(covers, 2, "no", everything)
        self.assertIs(is_height_paper(ONCE, "yes", ("height", paper[1], more)), True)
        self.assertEqual([covers[0]["no"], covers[0]["yes"]], [no, yes])
        turned = tuple({name: cover[name] for name in ("yes", "no")} for cover in covers)
        self.assertIs(is_height_paper(ONCE, "yes", ("height", paper[1], turned)), True)
        for tower in ((("a",), ("a", "a")), (("b", "a"), ("b", "a", "b", "a")), (("a",), ("a",) * 300)):
            self.assertIs(is_height_paper(ONCE, "yes", ("height", tower, covers)), True)
        for tower in ((("b",), ("a",)), (("a",), ("b", "a")), (("a",),), ((), ("a",))):
            self.assertIs(is_height_paper(ONCE, "yes", ("height", tower, covers)), False)

    def test_sets_that_are_not_closed(self):
        # but for this, these would show that ONCE has lesser heights, and LAST another swing
        no, yes, none = logs_with(ONCE, "no"), logs_with(ONCE, "yes"), Logs.nothing(AB)
        empty = {"no": none, "yes": none}
        for name, log in (("yes", ("a",)), ("no", ())):
            self.assertIs(is_height_paper(ONCE, name, ("height", (log,), ({"no": no, "yes": yes}, empty))), False)
            self.assertIs(is_height_paper(ONCE, name, ("height", (log,), ({"no": below(no), "yes": yes}, empty))), False)
            self.assertIs(is_height_paper(ONCE, name, ("height", (log,), ({"no": no, "yes": below(yes)}, empty))), False)
        for swing in (~Logs.listing(AB, ("a",)), ~Logs.listing(AB, ("b", "a"), ("a", "b"))):
            self.assertIs(is_height_paper(LAST, "x", ("swing", swing, ("a", "a"))), False)
            self.assertIs(is_height_paper(LAST, "y", ("swing", swing, ("b", "b"))), False)

    def test_random_covers(self):
        source = random.Random(65)
        for judge in SMALL[:40]:
            sets = [below(Logs(machine)) for machine in plain.some_machines(66, 10, judge[0], 3)]
            for verdict, many in heights(judge).items():
                if many is not None:
                    _, tower, covers = height_paper(judge, verdict)
                    for _ in range(6):
                        at = source.randrange(len(covers))
                        name = source.choice(list(covers[at]))
                        value = changed_covers(covers, at, name, source.choice(sets) | source.choice([covers[at][name], sets[0]]))
                        self.assertIs(is_height_paper(judge, verdict, ("height", tower, value)),
                                      self.plain_covers(judge, value) and not value[-1][verdict])

    def plain_covers(self, judge, covers):
        verdicts = verdicts_of(judge)
        for at, cover in enumerate(covers):
            for verdict in verdicts:
                wanted = logs_with(judge, verdict)
                if at > 0:
                    others = Logs.nothing(judge[0])
                    for other in verdicts:
                        others = others | covers[at - 1][other] if other != verdict else others
                    wanted = wanted & others
                if not wanted.is_within(cover[verdict]):
                    return False
        return True

    def test_other_swings(self):
        everything = Logs.everything(AB)
        for log in (("a",), ("b", "a"), ("a",) * 300):
            self.assertIs(is_height_paper(LAST, "x", ("swing", everything, log)), True)
        for log in ((), ("b",), ("c",), ["a"], "a", None):
            self.assertIs(is_height_paper(LAST, "x", ("swing", everything, log)), False)
        for logs in (Logs.nothing(AB), Logs.sized(AB, most=9), ~everything, Logs(plain.EVEN), Logs.everything(LINE), None,
                     Logs.everything(("a", "c")), below(Logs.listing(AB, ("a", "b"))), (AB, ((0, 0),), (True,)),
                     Logs((AB, ((0, 1), (1, 1)), (True, False)))):
            self.assertIs(is_height_paper(LAST, "x", ("swing", logs, ("a",))), False)
        # of two swings each one is one, and so is their union
        rows = ((1, 2, 3, 4), (1, 2, 5, 5), (1, 2, 5, 5), (5, 5, 3, 4), (5, 5, 3, 4), (5, 5, 5, 5))
        judge = (("a", "b", "c", "d"), rows, (None, "p", "q", "r", "s", None))
        one = Logs((judge[0], ((0, 0, 1, 1), (1, 1, 1, 1)), (True, False)))
        two = Logs((judge[0], ((1, 1, 0, 0), (1, 1, 1, 1)), (True, False)))
        for swing, wanted in ((one, True), (one | two, True), (two, False), (one & two, False),
                              (one | below(Logs.listing(judge[0], ("c",))), False)):
            self.assertIs(is_height_paper(judge, "p", ("swing", swing, ("a",))), wanted)

    def test_swings_against_all_short_logs(self):
        source = random.Random(67)
        met = {True: 0, False: 0}
        for judge in SMALL[:150] + [LAST] * 10:
            logs = below(Logs(source.choice(plain.some_machines(68, 30, "ab", 3))))
            known = list(logs.listed(longest=8))
            good = bool(known)
            for log in logs.listed(longest=2):
                above = {label(judge, one) for one in known if below_it(log, one)} - {None}
                good = good and len(above) > 1
            for verdict in verdicts_of(judge):
                first = [log for log in known if label(judge, log) == verdict]
                if first and judge[0] == AB:
                    found = is_height_paper(judge, verdict, ("swing", logs, first[0]))
                    met[found] += 1
                    self.assertTrue(good or not found)
                    if logs.count() is not None or not good:
                        self.assertIs(found, False)
        self.assertGreater(min(met.values()), 10)

    def test_five_verdicts_and_many_states(self):
        judge = plain.tail_judge(tuple("pqrst"[at % 5] for at in range(40)), 0)
        for verdict in "pqrst":
            paper = height_paper(judge, verdict)
            self.assertEqual(paper[1], Logs.everything(LINE))
            self.assertIs(is_height_paper(judge, verdict, paper), True)
        paper = height_paper(WIDE, "x")
        self.assertIs(is_height_paper(WIDE, "x", paper), True)
        # papers can be judged, but not be made, if a round has more than 200 states
        for value in (None, ("height", (), ()), ("swing", Logs.everything(WIDER[0]), ("a",))):
            self.assertIs(is_height_paper(WIDER, "x", value), False)

    def test_accepts_every_value(self):
        for judge, verdict in ((ONCE, "yes"), (LAST, "x")):
            kind, one, other = height_paper(judge, verdict)
            # as the log of a swing a longer log is fine
            for value in [one for one in plain.NO_LOGS + plain.SETS if one not in (TOO_LONG, plain.FULL + ("a",))]:
                for paper in (value, (kind, value, other), (kind, one, value), (value, one, other), (kind, one),
                              (kind, one, other, value), [kind, one, other], (kind, one, (value, value, {})), (kind, other, one)):
                    self.assertIs(plain.unchanged(self, is_height_paper, judge, verdict, paper), False, paper)
        _, tower, covers = height_paper(ONCE, "yes")
        for value in plain.OTHERS + plain.NUMBERS + plain.SETS[1:] + ((), Logs.everything(LINE), Logs.everything(("a", "c")),
                                                                      ~Logs.listing(AB, ("a",))):
            wrong = changed_covers(covers, 1, "yes", value)
            self.assertIs(is_height_paper(ONCE, "yes", ("height", tower, wrong)), False)
        for cover in ({}, {"yes": covers[0]["yes"]}, {**covers[0], "x": covers[0]["yes"]}, {**covers[0], 1: covers[0]["yes"]},
                      {"no": covers[0]["no"], "x": covers[0]["yes"]}, list(covers[0]), (covers[0],)):
            self.assertIs(is_height_paper(ONCE, "yes", ("height", tower, (cover,) + covers[1:])), False)
        self.assertIs(is_height_paper(ONCE, "yes", ("height", tower, list(covers))), False)
        self.assertIs(is_height_paper(ONCE, "yes", ("height", list(tower), covers)), False)
        self.assertIs(is_height_paper(ONCE, "yes", ("height", tower, covers)), True)


class MadeJudgesTest(unittest.TestCase):

    def test_judges_of_sets(self):
        # the heights hang on the sets of logs alone
        for judge in SMALL[:40]:
            sets = {verdict: logs_with(judge, verdict) for verdict in verdicts_of(judge)}
            self.assertEqual(heights(make_judge_by(judge[0], sets)), heights(judge))


if __name__ == "__main__":
    unittest.main()
