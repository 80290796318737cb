"""What holds over the whole program: numbers, ladders, rivals, keeping answers and monitors agree."""

import itertools
import random
import unittest

import plain
from plain import AB, LAST, ONCE, THREE, TURNS, label
from seldomflip.base.logs import arrived
from seldomflip.judges.histories import Keeper, fewest_flips, flips, kept
from seldomflip.judges.judges import behind, make_judge_by, mapped, verdict_of, verdicts_of
from seldomflip.judges.plain import best_filling, fillings, is_plain, worst_flips
from seldomflip.late.closing import flips_left, settled_logs
from seldomflip.late.monitors import Monitor
from seldomflip.rules.rules import normal, rule_for, rule_judge
from seldomflip.sets.closures import is_closed_up
from seldomflip.sets.logsets import Logs
from seldomflip.towers.ladders import first_wrong, least_ladder
from seldomflip.towers.swings import Rival, best_firsts, greatest_swing, is_number_paper, number, number_paper, walk
from seldomflip.towers.towers import height, heights, highest_tower, is_tower

JUDGES = [judge for judge in plain.some_machines(181, 30, "ab", 3, (None, "p", "q")) + plain.some_machines(
    182, 20, "ab", 4, (None, "p", "q", "r")) + [LAST, ONCE, TURNS, THREE] if verdicts_of(judge)]
LIMITED = [judge for judge in JUDGES if number(judge) is not None]
ENDLESS = [judge for judge in JUDGES if number(judge) is None]


def orders(many):
    return list(itertools.permutations(range(many)))


class NumberTest(unittest.TestCase):

    def test_a_number_or_a_swing(self):
        for judge in JUDGES:
            self.assertEqual(number(judge) is None, bool(greatest_swing(judge)))
            paper = number_paper(judge)
            self.assertEqual(paper[0], "swing" if number(judge) is None else "number")
            self.assertTrue(is_number_paper(judge, paper))
        self.assertTrue(LIMITED and ENDLESS)

    def test_in_every_order(self):
        for judge in LIMITED:
            many = number(judge)
            for log in plain.all_logs(judge[0][:2], 4)[-16::3]:
                for order in orders(len(log)):
                    history = arrived(log, order)
                    for first in best_firsts(judge):
                        self.assertLessEqual(flips(kept(judge, history, first=first)), many)

    def test_monitors_in_every_order(self):
        for judge in JUDGES[::2]:
            many = number(judge)
            for log in plain.all_logs(judge[0][:2], 3)[-8::2]:
                for order in orders(len(log)):
                    monitor = Monitor(judge)
                    keeper = Keeper(judge, first=monitor.answer)
                    history = arrived(log, order)
                    for at, told in zip(order, history[1:]):
                        monitor.tell(at, log[at])
                        self.assertEqual(monitor.answer, keeper.tell(told))
                    self.assertEqual((monitor.log, monitor.flips), (log, keeper.flips))
                    left = monitor.flips_left()
                    if many is not None:
                        self.assertLessEqual(monitor.flips + left, many)
                    monitor.close(10)
                    self.assertEqual(monitor.closed, log)
                    closed = monitor.flips_left()
                    self.assertLessEqual(999 if closed is None else closed, 999 if left is None else left)

    def test_forced(self):
        # for each first answer there is a tower on which each right answerer flips so often
        for judge in LIMITED:
            many = number(judge)
            for first in verdicts_of(judge):
                tower = max([highest_tower(judge, one) for one in verdicts_of(judge) if one != first], key=len, default=())
                history = tower if tower[:1] == ((),) else ((),) + tower
                self.assertTrue(is_tower(judge, tower))
                begin = verdict_of(judge, ())
                self.assertGreaterEqual(fewest_flips(judge, history, first=begin or first), many)

    def test_rivals_against_any_memory(self):
        source = random.Random(11)
        for judge in JUDGES:
            many = number(judge)

            def answers(history):
                # right, but with any answers where the log is free
                verdict = verdict_of(judge, history[-1])
                return verdict or source.choice(verdicts_of(judge) + ("other",))

            for _ in range(3):
                history, told = Rival(judge).play(answers, most=7)
                if many is None:
                    self.assertEqual(flips(told), 7)
                else:
                    self.assertGreaterEqual(flips(told), min(7, many))

    def test_walks(self):
        for judge in ENDLESS:
            tower = tuple(log for _, log in zip(range(8), walk(judge, greatest_swing(judge))))
            history = tower if tower[0] == () else ((),) + tower
            self.assertTrue(is_tower(judge, tower))
            self.assertGreaterEqual(fewest_flips(judge, history), 7)


class LadderTest(unittest.TestCase):

    def test_as_good_with_two_verdicts(self):
        for judge in LIMITED:
            verdicts = verdicts_of(judge)
            if len(verdicts) > 2:
                continue
            names = verdicts if len(verdicts) == 2 else verdicts + ("zz",)
            ladders = [least_ladder(judge, *names), least_ladder(judge, *names[::-1])]
            self.assertEqual(min(len(ladder) for ladder in ladders), number(judge))
            for ladder in ladders:
                self.assertIsNone(first_wrong(judge, ladder))
                self.assertTrue(all(is_closed_up(rung) for rung in ladder.rungs))
                answerer = ladder.as_judge()
                self.assertLessEqual(worst_flips(answerer), len(ladder))
                if len(verdicts) == 2:
                    self.assertTrue(is_plain(judge, answerer))
                for log in plain.all_logs(judge[0], 4)[-12:]:
                    for order in orders(len(log))[::5]:
                        self.assertLessEqual(flips(tuple(ladder(one) for one in arrived(log, order))), len(ladder))

    def test_fails_with_three(self):
        self.assertEqual(number(THREE), 1)
        self.assertEqual(worst_flips(best_filling(THREE)), 2)
        self.assertTrue(all(worst_flips(one) > number(THREE) for one in fillings(THREE)))

    def test_rules(self):
        for judge in JUDGES:
            total = mapped(judge, **{one: "yes" if one == verdicts_of(judge)[0] else "no" for one in verdicts_of(judge)})
            total = (total[0], total[1], tuple(one or "no" for one in total[2]))
            logs = Logs((total[0], total[1], tuple(one == "yes" for one in total[2])))
            if number(total) is not None:
                rule = rule_for(logs)
                self.assertEqual(normal(total[0], rule), rule)
                for log in plain.all_logs(total[0], 4):
                    self.assertEqual(verdict_of(rule_judge(total[0], rule), log), label(total, log))


class ClosedTest(unittest.TestCase):

    def test_behind_closed_times(self):
        # all of it holds of the judge behind the closed log
        source = random.Random(12)
        for judge in JUDGES:
            for _ in range(6):
                closed = tuple(source.choice(judge[0]) for _ in range(source.randint(0, 3)))
                small = behind(judge, closed)
                for answer in verdicts_of(judge):
                    if verdict_of(judge, closed) in (None, answer):
                        left = flips_left(judge, closed, (), answer)
                        others = [height(small, one) for one in verdicts_of(small) if one != answer]
                        self.assertEqual(left, None if None in others else max([0] + others))
                if verdicts_of(small):
                    monitor = Monitor(judge, first=verdicts_of(judge)[0])
                    monitor.tell_all(tuple((0, letter) for letter in closed))
                    monitor.close(1)
                    rival = Rival(small)
                    if number(small) is None:
                        self.assertIsNone(monitor.flips_left())
                        self.assertIsNone(rival.left)

    def test_each_flip_is_paid_for(self):
        source = random.Random(13)
        for judge in LIMITED:
            for _ in range(4):
                monitor = Monitor(judge)
                left = monitor.flips_left()
                self.assertEqual(left, number(judge))
                for _ in range(6):
                    before = monitor.flips
                    if source.random() < 0.25:
                        monitor.close(source.randint(monitor.closed_to, 5))
                    else:
                        monitor.tell(source.randint(monitor.closed_to, 5), source.choice(judge[0]))
                    now = monitor.flips_left()
                    self.assertLessEqual(now + monitor.flips - before, left)
                    left = now

    def test_the_worst_can_happen(self):
        # what turning tells, again and again, brings at least one flip each time, until the monitor is settled
        for judge in LIMITED:
            monitor = Monitor(judge)
            while not monitor.is_settled():
                before = monitor.flips
                for time, letter, position in monitor.turning():
                    monitor.tell(time, letter, position=position)
                self.assertGreater(monitor.flips, before)
            self.assertIn(monitor.late, settled_logs(judge, monitor.answer))
            self.assertLessEqual(monitor.flips, number(judge))

    def test_undone_steps_and_branches(self):
        source = random.Random(14)
        for judge in JUDGES[::2]:
            monitor = Monitor(judge)
            for _ in range(12):
                choice = source.random()
                if choice < 0.5:
                    monitor.tell(source.randint(monitor.closed_to, 5), source.choice(judge[0]))
                elif choice < 0.7:
                    monitor.back(source.randint(0, monitor.groups))
                elif choice < 0.85:
                    monitor = monitor.branch()
                else:
                    monitor.close(source.randint(monitor.closed_to, 5))
                self.assertEqual(monitor.flips_left(), flips_left(judge, monitor.closed, monitor.late, monitor.answer))
                self.assertIn(verdict_of(judge, monitor.log), (None, monitor.answer))
                if number(judge) is not None:
                    self.assertLessEqual(monitor.flips + monitor.flips_left(), number(judge))


class NotTrueTest(unittest.TestCase):
    """[0.15]: none of these is true."""

    def test_loops(self):
        # the first event decides: each loop keeps its verdict, but there is no number
        judge = (AB, ((1, 2), (1, 1), (2, 2)), (None, "x", "y"))
        self.assertIsNone(number(judge))
        self.assertEqual(greatest_swing(judge), Logs.everything(AB))

    def test_highest_tower(self):
        self.assertEqual((number(ONCE), max(heights(ONCE).values())), (2, 3))

    def test_heights_differ(self):
        # with three verdicts
        judge = make_judge_by(("a", "b"), {"p": Logs.listing(AB, ("a",), ("a",) * 3), "q": Logs.listing(AB, ("a",) * 2, ("a",) * 4),
                                           "r": Logs.listing(AB, ("b",))})
        self.assertEqual(heights(judge), {"p": 4, "q": 3, "r": 1})

    def test_first_log_that_is_not_free(self):
        judge = make_judge_by(AB, {"p": Logs.listing(AB, ("b",)), "q": Logs.listing(AB, ("a", "a"), ("a",) * 4), "r": Logs.listing(AB, ("a",) * 3)})
        self.assertEqual(best_firsts(judge), ("q",))

    def test_no_plain_answerer_is_as_good(self):
        self.assertLess(number(THREE), worst_flips(best_filling(THREE)))


if __name__ == "__main__":
    unittest.main()
