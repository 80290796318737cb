"""Monitors: events, closings, groups, undone steps, branches, trials and watches."""

import random
import unittest

import plain
from plain import AB, FREE, LAST, NO_JUDGES, ONCE, THREE, TURNS
from seldomflip.base.ways import is_below
from seldomflip.errors import (
    InvalidEdit, InvalidJudge, InvalidNumber, InvalidOperation, NothingToUndo, TooLate, TooMany, UnknownName)
from seldomflip.judges.histories import Keeper
from seldomflip.judges.judges import make_judge_by, verdict_of, verdicts_of
from seldomflip.late.closing import flips_left, turning
from seldomflip.late.monitors import MAX_TIME, Monitor
from seldomflip.sets.logsets import Logs
from seldomflip.text.formats import format_log
from seldomflip.towers.swings import best_firsts, number
from test_towers import WIDE, WIDER, chain_judge

SMALL = [judge for judge in plain.some_machines(151, 30, "ab", 4, (None, "p", "q")) + plain.some_machines(
    152, 20, "ab", 4, (None, "p", "q", "r")) + [LAST, ONCE, THREE, TURNS] if verdicts_of(judge)]
NO_TIMES = plain.NO_NUMBERS + plain.SETS + (-1, 10 ** 9 + 1, 10 ** 59, -(10 ** 59))
NO_PAIRS = plain.OTHERS + plain.NUMBERS + plain.SETS + (
    [(1, "a")], ((1,),), ((1, "a", 0),), ((1, "a"), None), ((1, "a"), [1, "a"]), (1, "a"), ("a", "b"), ((),), {1: "a"})
NO_LETTERS_HERE = tuple(value for value in plain.OTHERS + plain.NUMBERS if value not in ("a", "b")) + ("c", "A", ("a",), ["a"])


def state_of(monitor):
    """What a monitor tells of itself."""
    return (monitor.judge, monitor.answer, monitor.flips, monitor.events, monitor.log, monitor.closed, monitor.late,
            monitor.closed_to, monitor.groups, len(monitor), str(monitor), list(monitor.rings()))


def full_state(monitor):
    """The same, with what is behind it and what can be made again."""
    other = monitor.branch()
    found = [state_of(monitor)]
    while True:
        try:
            other.again()
        except NothingToUndo:
            break
        found.append(state_of(other)[:-1])
    other.back(other.groups - monitor.groups)
    while other.groups:
        other.back()
        found.append(state_of(other)[:-1])
    return found


class Plain:
    """A monitor by its definition: a list of events, and a keeper that is told the logs behind the groups."""

    def __init__(self, judge, first):
        self.judge, self.keeper, self.events, self.closed_to = judge, Keeper(judge, first=first), [], 0

    def put(self, time, letter, position):
        same = [at for at, event in enumerate(self.events) if event[0] == time]
        before = len([1 for event in self.events if event[0] < time])
        self.events.insert(before + (len(same) if position is None else position), (time, letter))

    def group(self):
        self.keeper.tell(tuple(letter for _, letter in self.events))

    def compare(self, case, monitor):
        closed = tuple(letter for time, letter in self.events if time < self.closed_to)
        late = tuple(letter for time, letter in self.events if time >= self.closed_to)
        case.assertEqual(monitor.events, tuple(self.events))
        case.assertEqual((monitor.log, monitor.closed, monitor.late, monitor.closed_to), (closed + late, closed, late, self.closed_to))
        case.assertEqual((monitor.answer, monitor.flips, monitor.groups), (self.keeper.answer, self.keeper.flips, len(self.keeper)))
        case.assertEqual(len(monitor), len(self.events))
        case.assertEqual(str(monitor), f"{format_log(closed)}|{format_log(late)}: {monitor.answer}, {monitor.flips} flips")
        case.assertEqual(monitor.flips_left(), flips_left(self.judge, closed, late, monitor.answer))
        case.assertIs(monitor.is_settled(), monitor.flips_left() == 0)
        for time in range(8):
            case.assertEqual(monitor[time], tuple(letter for one, letter in self.events if one == time))


class MonitorTest(unittest.TestCase):

    def test_first_answers(self):
        for judge in SMALL:
            begin = verdict_of(judge, ())
            bests = best_firsts(judge)
            wanted = begin or (bests or verdicts_of(judge))[0]
            self.assertEqual(Monitor(judge).answer, wanted)
            for first in verdicts_of(judge):
                self.assertEqual(Monitor(judge, first=first).answer, begin or first)
        self.assertEqual([Monitor(ONCE).answer, Monitor(ONCE, first="yes").answer, Monitor(LAST).answer, Monitor(THREE).answer],
                         ["no", "no", "x", "p"])
        # the best first answer is neither the least verdict nor the one of the first log that has one
        other = make_judge_by(AB, {"p": Logs.listing(AB, ("b",)), "q": Logs.listing(AB, ("a", "a"), ("a",) * 4), "r": Logs.listing(AB, ("a",) * 3)})
        self.assertEqual((Monitor(other).answer, Monitor(other).flips_left()), ("q", 2))
        self.assertEqual((MAX_TIME, Monitor(ONCE).tell(10 ** 9, "a")), (10 ** 9, "yes"))
        self.assertEqual(state_of(Monitor(LAST, first="y")), (LAST, "y", 0, (), (), (), (), 0, 0, 0, "-|-: y, 0 flips", []))

    def test_against_keepers(self):
        source = random.Random(1)
        for judge in SMALL * 2:
            first = source.choice(verdicts_of(judge))
            monitor, other = Monitor(judge, first=first), Plain(judge, first)
            for _ in range(9):
                kind = source.random()
                if kind < 0.6:
                    time = source.randint(other.closed_to, 7)
                    many = len([1 for event in other.events if event[0] == time])
                    position = source.choice([None] + list(range(many + 1)))
                    letter = source.choice(judge[0])
                    other.put(time, letter, position)
                    other.group()
                    if position is None:
                        self.assertEqual(monitor(time, letter), other.keeper.answer)
                    self.assertEqual(monitor.tell(time, letter, position=position), other.keeper.answer)
                elif kind < 0.8:
                    told = tuple((source.randint(other.closed_to, 7), source.choice(judge[0])) for _ in range(source.randint(0, 3)))
                    for time, letter in told:
                        other.put(time, letter, None)
                    if told:
                        other.group()
                    self.assertEqual(monitor.tell_all(told), other.keeper.answer)
                else:
                    other.closed_to = source.randint(other.closed_to, 7)
                    other.group()
                    self.assertEqual(monitor.close(other.closed_to), monitor.flips_left())
                other.compare(self, monitor)

    def test_flips_never_rise(self):
        # [15.4]: the flips so far and the flips left
        source = random.Random(2)
        for judge in SMALL:
            monitor = Monitor(judge)
            total = 999 if number(judge) is None else number(judge)
            for _ in range(7):
                if source.random() < 0.7:
                    monitor.tell(source.randint(monitor.closed_to, 5), source.choice(judge[0]))
                else:
                    monitor.close(source.randint(monitor.closed_to, 5))
                left = monitor.flips_left()
                now = 999 if left is None else left + monitor.flips
                self.assertLessEqual(now, total)
                total = now

    def test_groups(self):
        # only the log behind all events of a group counts
        monitor = Monitor(ONCE)
        self.assertEqual((monitor.tell_all(((2, "a"), (1, "a"))), monitor.flips, monitor.groups), ("no", 0, 1))
        self.assertEqual((monitor.tell_all(()), monitor.groups), ("no", 1))
        other = Monitor(ONCE)
        other.tell(2, "a")
        other.tell(1, "a")
        self.assertEqual((other.answer, other.flips, other.groups), ("no", 2, 2))
        self.assertEqual(other.events, monitor.events)
        self.assertFalse(other == monitor)

    def test_equal_times(self):
        monitor = Monitor(LAST)
        monitor.tell_all(((5, "a"), (5, "b"), (0, "a"), (MAX_TIME, "b"), (5, "a")))
        self.assertEqual(monitor.events, ((0, "a"), (5, "a"), (5, "b"), (5, "a"), (MAX_TIME, "b")))
        monitor.tell(5, "b", position=0)
        monitor.tell(5, "b", position=3)
        monitor.tell(5, "a", position=5)
        self.assertEqual(monitor[5], ("b", "a", "b", "b", "a", "a"))
        self.assertEqual((monitor[0], monitor[MAX_TIME], monitor[7]), (("a",), ("b",), ()))
        monitor.tell(0, "b", position=0)
        monitor.tell(MAX_TIME, "a", position=1)
        self.assertEqual((monitor.log[0], monitor.log[-1]), ("b", "a"))

    def test_closing(self):
        monitor = Monitor(ONCE)
        monitor.tell_all(((3, "b"), (4, "a"), (4, "b"), (6, "b")))
        self.assertEqual((monitor.close(0), monitor.closed, monitor.groups), (1, (), 2))
        self.assertEqual((monitor.close(4), monitor.closed, monitor.late, monitor.closed_to), (1, ("b",), ("a", "b", "b"), 4))
        self.assertEqual((monitor.close(4), monitor.groups), (1, 4))
        # an event can still be told at each position of the late log
        monitor.tell(4, "a", position=0)
        self.assertEqual((monitor.late, monitor.answer), (("a", "a", "b", "b"), "no"))
        self.assertEqual(plain.refused(self, TooLate, monitor.tell, 3, "a").time, 3)
        self.assertEqual((monitor.close(MAX_TIME), monitor.late), (0, ()))
        self.assertTrue(monitor.is_settled())
        monitor.tell(MAX_TIME, "b")
        self.assertEqual((monitor.late, monitor.closed[:2]), (("b",), ("b", "a")))
        turned = Monitor(TURNS)
        turned.tell(2, "a")
        self.assertEqual((turned.flips_left(), turned.close(3), turned.flips_left()), (1, 1, 1))
        endless = Monitor(LAST)
        self.assertIsNone(endless.close(7))
        self.assertIsNone(endless.flips_left())
        self.assertFalse(endless.is_settled())

    def test_membership_and_equality(self):
        monitor = Monitor(ONCE)
        monitor.tell_all(((1, "a"), (0, "b")))
        self.assertTrue((1, "a") in monitor and (0, "b") in monitor)
        for value in plain.OTHERS + plain.NUMBERS + plain.SETS + (
                (), (1, "b"), (True, "a"), (False, "b"), [1, "a"], (1, "a", 0), (1,), ((1, "a"),), (1, ["a"]), monitor):
            self.assertIs(value in monitor, False)
        same = Monitor(ONCE)
        same.tell_all(((0, "b"), (1, "a")))
        self.assertTrue(monitor == same)
        # other groups on the way do not count
        same.close(0)
        self.assertTrue(monitor == same)
        same.close(1)
        self.assertFalse(monitor == same)
        for value in plain.OTHERS + plain.SETS + (Monitor(ONCE), Monitor(TURNS), None, monitor.events):
            self.assertFalse(monitor == value)
        one, two = Monitor(LAST, first="x"), Monitor(LAST, first="y")
        self.assertFalse(one == two)
        for each in (one, two):
            each.tell(0, "a")
        # the flips differ
        self.assertFalse(one == two)

    def test_two_hundred_events(self):
        monitor = Monitor(LAST)
        monitor.tell_all(tuple((at, "ab"[at % 2]) for at in range(199)))
        self.assertEqual(monitor(500, "b"), "y")
        monitor.tell(500, "b")
        before = full_state(monitor)
        self.assertEqual((len(monitor), monitor.flips_left()), (200, None))
        for call in (lambda: monitor.tell(1, "a"), lambda: monitor(1, "a"), lambda: monitor.tell_all(((1, "a"),)), monitor.turning):
            self.assertEqual(plain.refused(self, TooMany, call).limit, 200)
        monitor.close(3)
        self.assertEqual(plain.refused(self, TooLate, monitor.tell, 1, "a").time, 1)
        monitor.back()
        self.assertEqual(state_of(monitor)[:-1], before[0][:-1])
        other = Monitor(LAST)
        self.assertEqual(plain.refused(self, TooMany, other.tell_all, ((0, "a"),) * 201).limit, 200)
        self.assertEqual(len(other), 0)
        # an event that is wrong in front of the one that is too many comes first
        plain.refused(self, UnknownName, other.tell_all, ((0, "a"),) * 200 + ((0, "c"), (0, "a")))


class TurningTest(unittest.TestCase):

    def test_told_in_this_order(self):
        source = random.Random(4)
        for judge in SMALL:
            for _ in range(4):
                monitor = Monitor(judge)
                monitor.tell_all(tuple((source.randint(0, 4), source.choice(judge[0])) for _ in range(source.randint(0, 5))))
                if source.random() < 0.5:
                    monitor.close(source.randint(0, 5))
                before = full_state(monitor)
                found = monitor.turning()
                self.assertEqual(full_state(monitor), before)
                wanted = turning(judge, monitor.closed, monitor.late, monitor.answer)
                self.assertEqual(found is None, wanted is None)
                self.assertEqual(found is None, monitor.is_settled())
                if found is not None:
                    self.assertEqual(len(found), len(wanted) - len(monitor.late))
                    answer = monitor.answer
                    for time, letter, position in found:
                        monitor.tell(time, letter, position=position)
                    self.assertEqual(monitor.late, wanted)
                    self.assertNotEqual(monitor.answer, answer)

    def test_ordinary(self):
        monitor = Monitor(ONCE)
        self.assertEqual(monitor.turning(), ((0, "a", 0),))
        monitor.tell_all(((3, "b"), (3, "b"), (7, "b")))
        self.assertEqual(len(monitor.turning()), 1)
        monitor.tell_all(((3, "a"), (3, "a")))
        self.assertIsNone(monitor.turning())


class UndoTest(unittest.TestCase):

    def started(self):
        monitor = Monitor(ONCE)
        monitor.tell(5, "b")
        monitor.tell(3, "a")
        monitor.close(4)
        monitor.tell_all(((4, "a"), (9, "b")))
        return monitor

    def test_back_and_again(self):
        monitor = self.started()
        states = []
        for many in range(5):
            other = self.started()
            self.assertEqual(other.back(many), 4 - many)
            states.append(state_of(other)[:-1])
            self.assertEqual(other.again(many), 4)
            self.assertEqual(state_of(other)[:-1], states[0])
        for at in range(1, 5):
            self.assertEqual(monitor.back(), 4 - at)
            self.assertEqual(state_of(monitor)[:-1], states[at])
        for at in range(3, -1, -1):
            self.assertEqual(monitor.again(), 4 - at)
            self.assertEqual(state_of(monitor)[:-1], states[at])
        self.assertEqual((monitor.back(0), monitor.again(0)), (4, 4))
        self.assertEqual(monitor.closed_to, 4)
        monitor.back(3)
        self.assertEqual((monitor.closed_to, monitor.groups), (0, 1))
        monitor.again(2)
        self.assertEqual(state_of(monitor)[:-1], states[1])

    def test_a_new_group_ends_what_can_be_made_again(self):
        for call in (lambda one: one.tell(7, "a"), lambda one: one.tell_all(((7, "a"),)), lambda one: one.close(4)):
            monitor = self.started()
            monitor.back(2)
            call(monitor)
            self.assertEqual(plain.refused(self, NothingToUndo, monitor.again).many, 1)
        monitor = self.started()
        monitor.back(2)
        # these make no group
        monitor.tell_all(())
        monitor(7, "a")
        monitor.turning()
        for call in (lambda: monitor.tell(-1, "a"), lambda: monitor.tell(7, "c")):
            with self.assertRaises((InvalidNumber, UnknownName)):
                call()
        self.assertEqual(monitor.again(2), 4)

    def test_refuses(self):
        monitor = self.started()
        monitor.back()
        before = full_state(monitor)
        for call in (monitor.back, monitor.again):
            for value in plain.NO_NUMBERS + plain.SETS + (-1, -(10 ** 59)):
                self.assertEqual(plain.refused(self, InvalidNumber, call, value).value, value)
            for value in (4, 10 ** 59):
                self.assertEqual(plain.refused(self, NothingToUndo, call, value).many, value)
        plain.refused(self, NothingToUndo, monitor.again, 2)
        self.assertEqual(full_state(monitor), before)
        plain.refused(self, NothingToUndo, Monitor(ONCE).back)

    def test_branches(self):
        monitor = self.started()
        monitor.watch("events", len)
        monitor.back()
        before = full_state(monitor)
        other = monitor.branch()
        self.assertEqual(full_state(other), before)
        self.assertTrue(other == monitor)
        other.tell(9, "a")
        other.unwatch("events")
        other.watch("other", str)
        self.assertEqual(full_state(monitor), before)
        changed = full_state(other)
        monitor.again()
        monitor.unwatch("events")
        self.assertEqual(full_state(other), changed)

    def test_trials(self):
        monitor = self.started()
        monitor.watch("flips", lambda one: one.flips)
        monitor.back(2)
        before = full_state(monitor)
        with monitor.trial() as one:
            self.assertIs(one, monitor)
            one.tell(8, "a")
            one.unwatch("flips")
            one.watch("other", len)
            one.close(9)
            self.assertNotEqual(full_state(one), before)
            with one.trial() as inner:
                inner.back(2)
            self.assertEqual(one.closed_to, 9)
        self.assertEqual(full_state(monitor), before)
        with self.assertRaises(KeyError):
            with monitor.trial() as one:
                one.tell(8, "a")
                raise KeyError("no")
        self.assertEqual(full_state(monitor), before)

    def test_during(self):
        monitor = self.started()
        monitor.back()
        before = full_state(monitor)
        self.assertEqual(monitor.during(lambda one: (one is monitor, one.tell(8, "a"), one.tell(8, "a"))), (True, "no", "no"))
        self.assertEqual(full_state(monitor), before)
        for error in (KeyError, TooLate):
            with self.assertRaises(error):
                monitor.during(lambda one: one.tell(2, "a") if error is TooLate else {}["x"])
            self.assertEqual(full_state(monitor), before)


class RingsTest(unittest.TestCase):

    def started(self):
        monitor = Monitor(ONCE)
        monitor.watch("many", len)
        monitor.watch("answer", lambda one: one.answer)
        monitor.watch("left", lambda one: one.flips_left())
        return monitor

    def test_behind_groups(self):
        monitor = self.started()
        self.assertEqual(list(monitor.rings()), [])
        monitor.tell(5, "b")
        self.assertEqual(list(monitor.rings()), [("many", 0, 1)])
        monitor.tell(5, "a")
        wanted = [("answer", "no", "yes"), ("left", 2, 1), ("many", 1, 2)]
        self.assertEqual(list(monitor.rings()), wanted)
        # asking changes nothing, and neither does what makes no group
        monitor.tell_all(())
        monitor(6, "a")
        self.assertEqual(list(monitor.rings()), wanted)
        with self.assertRaises(InvalidNumber):
            monitor.close(-1)
        self.assertEqual(list(monitor.rings()), wanted)
        monitor.close(6)
        self.assertEqual(list(monitor.rings()), [])
        monitor.tell_all(((6, "a"), (7, "b")))
        self.assertEqual(list(monitor.rings()), [("answer", "yes", "no"), ("left", 1, 0), ("many", 2, 4)])

    def test_behind_back_and_again(self):
        monitor = self.started()
        monitor.tell(5, "a")
        monitor.tell(5, "a")
        monitor.back(2)
        self.assertEqual(list(monitor.rings()), [("left", 0, 2), ("many", 2, 0)])
        monitor.again()
        self.assertEqual(list(monitor.rings()), [("answer", "no", "yes"), ("left", 2, 1), ("many", 0, 1)])
        monitor.again(0)
        self.assertEqual(list(monitor.rings()), [])
        monitor.back()
        self.assertEqual(list(monitor.rings()), [("answer", "yes", "no"), ("left", 1, 2), ("many", 1, 0)])
        monitor.back(0)
        self.assertEqual(list(monitor.rings()), [])

    def test_present_watches_are_asked(self):
        monitor = self.started()
        monitor.tell(5, "a")
        monitor.unwatch("many")
        monitor.unwatch("left")
        # added, and replaced, behind the call
        monitor.watch("log", lambda one: one.log)
        monitor.watch("answer", str)
        self.assertEqual(list(monitor.rings()), [("answer", "-|-: no, 0 flips", "-|a: yes, 1 flips"), ("log", (), ("a",))])
        monitor.watch("again", lambda one: one.groups)
        self.assertEqual([name for name, _, _ in monitor.rings()], ["again", "answer", "log"])

    def test_watches_that_change_what_they_are_given(self):
        monitor = self.started()
        monitor.watch("a", lambda one: one.tell(9, "a"))
        monitor.tell(5, "b")
        before = state_of(monitor)[:-1]
        self.assertEqual(list(monitor.rings()), [("many", 0, 1)])
        self.assertEqual(state_of(monitor)[:-1], before)
        monitor.tell(6, "a")
        self.assertEqual(list(monitor.rings())[0], ("a", "yes", "no"))
        # what could be made again in front of the call, and behind it
        monitor.back()
        monitor.watch("redo", lambda one: one.again() if one.groups == 1 else None)
        monitor.watch("a", len)
        self.assertIn(("redo", None, 2), list(monitor.rings()))

    def test_errors_of_watches(self):
        monitor = self.started()
        monitor.watch("error", lambda one: {}["x"])
        self.assertEqual(list(monitor.rings()), [])
        monitor.tell(5, "b")
        with self.assertRaises(KeyError):
            list(monitor.rings())

    def test_refuses(self):
        monitor = self.started()
        monitor.tell(5, "b")
        before = full_state(monitor)
        for value in plain.NO_NAMES + (None, ("a",), ["many"], monitor):
            plain.refused(self, InvalidOperation, monitor.watch, value, len)
            plain.refused(self, InvalidOperation, monitor.unwatch, value)
        for name in ("other", "a", "abcdefgh", "man", "manyy"):
            self.assertEqual(plain.refused(self, UnknownName, monitor.unwatch, name).name, name)
        self.assertEqual(full_state(monitor), before)

    def test_a_watch_that_is_removed(self):
        monitor = self.started()
        monitor.unwatch("many")
        self.assertEqual(plain.refused(self, UnknownName, monitor.unwatch, "many").name, "many")
        monitor.watch("many", len)
        self.assertIsNone(monitor.unwatch("many"))
        self.assertEqual(plain.refused(self, UnknownName, Monitor(ONCE).unwatch, "many").name, "many")


class WrongTest(unittest.TestCase):

    def test_refuses(self):
        for judge in NO_JUDGES[::5]:
            plain.refused(self, InvalidJudge, Monitor, judge, first=1)
        for value in plain.NO_NAMES[1:] + ("maybe",):
            self.assertEqual(plain.refused(self, UnknownName, Monitor, ONCE, first=value).name, value)
        plain.refused(self, UnknownName, Monitor, FREE, first="no")
        plain.refused(self, InvalidOperation, Monitor, FREE)
        # a verdict that no log has is none
        plain.refused(self, InvalidOperation, Monitor, (AB, ((0, 0), (1, 1)), (None, "no")))

    def test_tell_refuses(self):
        monitor = Monitor(ONCE)
        monitor.tell_all(((4, "a"), (4, "b"), (2, "b")))
        monitor.close(3)
        before = full_state(monitor)
        for value in NO_TIMES:
            self.assertEqual(plain.refused(self, InvalidNumber, monitor.tell, value, None, position=-1).value, value)
            self.assertEqual(plain.refused(self, InvalidNumber, monitor, value, None).value, value)
            self.assertEqual(plain.refused(self, InvalidNumber, monitor.tell_all, ((value, "c"),)).value, value)
            self.assertEqual(plain.refused(self, InvalidNumber, monitor.close, value).value, value)
            self.assertEqual(plain.refused(self, InvalidNumber, lambda: monitor[value]).value, value)
        for value in NO_LETTERS_HERE:
            self.assertEqual(plain.refused(self, UnknownName, monitor.tell, 2, value, position=-1).name, value)
            self.assertEqual(plain.refused(self, UnknownName, monitor, 2, value).name, value)
            self.assertEqual(plain.refused(self, UnknownName, monitor.tell_all, ((4, "a"), (2, value))).name, value)
        for value in plain.NO_NUMBERS + plain.SETS + (-1, 3, 10 ** 59):
            if value is not None:
                self.assertEqual(plain.refused(self, InvalidNumber, monitor.tell, 4, "a", position=value).value, value)
        self.assertEqual(plain.refused(self, InvalidNumber, monitor.tell, 2, "a", position=2).value, 2)
        self.assertEqual(plain.refused(self, InvalidNumber, monitor.tell, 5, "a", position=1).value, 1)
        for call in (lambda: monitor.tell(2, "a", position=1), lambda: monitor.tell(0, "a"), lambda: monitor(2, "a"),
                     lambda: monitor.tell_all(((4, "a"), (2, "a"), (7, "c")))):
            self.assertIn(plain.refused(self, TooLate, call).time, (0, 2))
        for value in NO_PAIRS:
            plain.refused(self, InvalidEdit, monitor.tell_all, value)
        for value in (2, 0):
            self.assertEqual(plain.refused(self, InvalidNumber, monitor.close, value).value, value)
        self.assertEqual(full_state(monitor), before)

    def test_too_many(self):
        self.assertIsNone(verdict_of(WIDER, ()))
        self.assertEqual(plain.refused(self, TooMany, Monitor, WIDER).limit, 200)
        monitor = Monitor(WIDER, first="x")
        for call in (monitor.flips_left, monitor.is_settled, lambda: monitor.close(0)):
            self.assertEqual(plain.refused(self, TooMany, call).limit, 200)
        self.assertEqual(monitor.groups, 0)
        # no rounds are needed for these
        self.assertIsNotNone(monitor.turning())
        monitor.tell(0, "a")
        self.assertIn(Monitor(WIDE).answer, verdicts_of(WIDE))
        total = (WIDER[0], WIDER[1], ("x",) + WIDER[2][1:])
        self.assertEqual(Monitor(total).answer, "x")

    def test_what_is_returned_gives_no_access(self):
        monitor = Monitor(ONCE)
        monitor.tell(1, "a")
        for value in (monitor.events, monitor.log, monitor.closed, monitor.late, monitor.judge, monitor[1], monitor.turning()):
            self.assertIsInstance(value, tuple)

    def test_high(self):
        judge = chain_judge(40)
        monitor = Monitor(judge)
        for at in range(39):
            monitor.tell(39 - at, "a")
        self.assertEqual((monitor.flips, monitor.flips_left(), monitor.answer), (39, 0, "q"))
        self.assertTrue(is_below(("a",), monitor.log))


if __name__ == "__main__":
    unittest.main()
