"""Histories of judges, right answers, keeping answers and keepers."""

import copy
import random
import unittest
from itertools import product

import plain
from plain import AB, FREE, LAST, NO_JUDGES, ONCE, label
from seldomflip.base.logs import is_history
from seldomflip.errors import (
    InvalidHistory, InvalidJudge, InvalidLog, InvalidNumber, InvalidOperation, NothingToUndo, TooMany, UnknownName)
from seldomflip.judges.histories import (
    Keeper, are_right, fewest_flips, flip_logs, flips, is_history_of, kept)
from seldomflip.judges.judges import verdicts_of
from seldomflip.towers.towers import is_tower

SMALL = plain.some_machines(51, 60, "ab", 4, plain.VERDICTS)
PAST = ((), ("b",), ("a", "b"), ("a", "b", "b"), ("a", "a", "b", "b"))
# ((),) is no log, but a history
NO_HISTORIES = tuple(value for value in plain.NO_LOGS if value != ((),)) + plain.SETS + (
    (), ("a",), ((), ("b",), ("a",)), ((), ("a",), ()), (("a",),), ((), "a"), ((), ["a"]), [()], ((), ("A",)), ((), None),
    ((), ("a",) * 201), ((),) * 201, ((), ("c",)), ((), ("a",), ("a", "c")), ((), ("a", "b"), ("b", "a", "a")))
NO_COUNTS = plain.NO_NUMBERS + plain.SETS + (-1, -(10 ** 59))
WHOLE = tuple(("a",) * many for many in range(200))


def some_histories(seed, many):
    source = random.Random(seed)
    found = [((),)]
    for _ in range(many):
        log, history = (), [()]
        for _ in range(source.randint(0, 4)):
            for _ in range(source.randint(0, 2)):
                place = source.randint(0, len(log))
                log = log[:place] + (source.choice(AB),) + log[place:]
            history.append(log)
        found.append(tuple(history))
    return found


def right_answers(judge, history, names):
    """All right answers from these names."""
    choices = [names if label(judge, log) is None else (label(judge, log),) for log in history]
    return list(product(*choices))


def changes(answers):
    return sum(one != other for one, other in zip(answers, answers[1:]))


class HistoriesTest(unittest.TestCase):

    def test_is_history_of(self):
        logs = plain.all_logs("abc", 2)
        for value in product(logs, repeat=2):
            for history in (value, ((),) + value):
                wanted = is_history(history) and all("c" not in log for log in history)
                self.assertIs(is_history_of(ONCE, history), wanted)
        for history in some_histories(52, 50) + [WHOLE, ((),) * 200, ((), plain.FULL), PAST]:
            self.assertIs(plain.unchanged(self, is_history_of, ONCE, history), True)
        self.assertIs(is_history_of(ONCE, WHOLE + (("a",) * 200,)), False)
        for value in NO_HISTORIES:
            self.assertIs(plain.unchanged(self, is_history_of, ONCE, value), False, value)

    def test_are_right(self):
        names = ("no", "yes", "z")
        for judge in SMALL[:25]:
            for history in some_histories(53, 6):
                right = right_answers(judge, history, names + ("x",))
                for answers in product(names, repeat=len(history)):
                    self.assertIs(are_right(judge, history, answers), answers in right)
        self.assertIs(plain.unchanged(self, are_right, ONCE, PAST, ("no", "no", "yes", "yes", "no")), True)
        for value in (("no", "no", "yes", "yes"), ("no", "no", "yes", "yes", "no", "no"), ["no", "no", "yes", "yes", "no"],
                      ("no", "no", "yes", "yes", None), (), None, "no"):
            self.assertIs(are_right(ONCE, PAST, value), False)

    def test_are_right_accepts_every_value(self):
        for value in plain.NO_LOGS + plain.SETS + ((),):
            self.assertIs(are_right(FREE, ((),), value), False)
            self.assertIs(are_right(FREE, ((), ("a",)), ("no", value)), isinstance(value, str) and value in ("a", "ab"))
            self.assertIs(are_right(FREE, ((), ("a",)), value), False)
        for value in plain.NO_NAMES:
            self.assertIs(plain.unchanged(self, are_right, FREE, ((), ("a",)), ("no", value)), False)
        self.assertIs(are_right(FREE, ((), ("a",)), ("abcdefgh", "a")), True)

    def test_flips(self):
        for many in range(1, 5):
            for answers in product(("a", "b", "c"), repeat=many):
                self.assertEqual(plain.unchanged(self, flips, answers), changes(answers))
        self.assertEqual(flips(("a", "b") * 500), 999)
        for value in plain.OTHERS + plain.NUMBERS + plain.SETS + (
                (), "no", ["no"], ("no", 1), ("no", ("no",)), ("No",), ("",), ((),), (None,), ("no", None), {"no": "no"},
                plain.deep("no", 3), (plain.LONG_NAME,)):
            plain.refused(self, InvalidOperation, flips, value)


class KeptTest(unittest.TestCase):

    def test_against_all_right_answers(self):
        names = ("no", "x", "yes", "z")
        for judge in SMALL[:40]:
            for history in some_histories(54, 8):
                right = right_answers(judge, history, names)
                self.assertEqual(fewest_flips(judge, history), min(changes(one) for one in right))
                for first in names:
                    begun = label(judge, ()) or first
                    fewest = min(changes(one) for one in right if one[0] == begun)
                    self.assertEqual(fewest_flips(judge, history, first=first), fewest)
                    answers = kept(judge, history, first=first)
                    self.assertIn(answers, right)
                    self.assertEqual((answers[0], changes(answers)), (begun, fewest))
                    for at in range(1, len(history)):
                        verdict = label(judge, history[at])
                        self.assertEqual(answers[at], answers[at - 1] if verdict is None else verdict)
                    logs = flip_logs(judge, history, first=first)
                    self.assertEqual(logs, tuple(history[at] for at in range(1, len(history)) if answers[at] != answers[at - 1]))
                    self.assertIs(is_tower(judge, logs), True)
                    self.assertTrue(logs == () or label(judge, logs[0]) != begun)

    def test_fewer_logs_have_no_more_flips(self):
        for judge in SMALL[:30]:
            for history in some_histories(55, 6):
                for at in range(1, len(history)):
                    less = history[:at] + history[at + 1:]
                    self.assertLessEqual(len(flip_logs(judge, less, first="z")), len(flip_logs(judge, history, first="z")))

    def test_ordinary(self):
        self.assertEqual(plain.unchanged(self, kept, ONCE, PAST, first="no"), ("no", "no", "yes", "yes", "no"))
        self.assertEqual(plain.unchanged(self, flip_logs, ONCE, PAST, first="x"), (("a", "b"), ("a", "a", "b", "b")))
        self.assertEqual(plain.unchanged(self, fewest_flips, LAST, PAST), 0)
        self.assertEqual(plain.unchanged(self, fewest_flips, LAST, PAST, first="x"), 1)
        self.assertEqual(kept(LAST, PAST, first="z"), ("z", "y", "y", "y", "y"))

    def test_edges(self):
        self.assertEqual([kept(FREE, ((),), first="abcdefgh"), flip_logs(FREE, ((),), first="z")], [("abcdefgh",), ()])
        self.assertEqual([fewest_flips(FREE, ((),)), fewest_flips(FREE, WHOLE, first="z")], [0, 0])
        self.assertEqual(kept(ONCE, WHOLE, first="z"), ("no", "yes") + ("no",) * 198)
        self.assertEqual(fewest_flips(ONCE, ((),) * 200), 0)
        turns = (("a",), ((1,), (0,)), ("x", "y"))
        self.assertEqual([fewest_flips(turns, WHOLE), fewest_flips(turns, WHOLE, first="y")], [199, 199])
        self.assertEqual(flip_logs(turns, WHOLE, first="z"), WHOLE[1:])

    def test_refuses(self):
        for value in NO_JUDGES:
            plain.refused(self, InvalidJudge, is_history_of, value, None)
            plain.refused(self, InvalidJudge, are_right, value, None, None)
            for call in (kept, flip_logs, fewest_flips):
                plain.refused(self, InvalidJudge, call, value, None, first=1)
        for value in NO_HISTORIES:
            plain.refused(self, InvalidHistory, are_right, ONCE, value, None)
            for call in (kept, flip_logs, fewest_flips):
                plain.refused(self, InvalidHistory, call, ONCE, value, first=1)
        for value in plain.NO_NAMES:
            for call in (kept, flip_logs):
                self.assertEqual(plain.refused(self, UnknownName, call, ONCE, PAST, first=value).name, value)
            if value is not None:
                self.assertEqual(plain.refused(self, UnknownName, fewest_flips, LAST, PAST, first=value).name, value)


def state_of(keeper):
    return (keeper.judge, keeper.log, keeper.answer, keeper.flips, keeper.history, keeper.answers, len(keeper), bool(keeper),
            str(keeper))


class KeeperTest(unittest.TestCase):

    def check(self, keeper, judge, history, first):
        answers = kept(judge, history, first=first)
        many = changes(answers)
        text = f"keeper at {len(history[-1])} events, {many} flips, answer {answers[-1]}"
        self.assertEqual(state_of(keeper), (judge, history[-1], answers[-1], many, history, answers, len(history) - 1,
                                            many > 0, text))

    def test_told(self):
        for judge in SMALL:
            for history in some_histories(56, 4):
                keeper = Keeper(judge, first="z")
                self.check(keeper, judge, history[:1], "z")
                for many in range(2, len(history) + 1):
                    log = history[many - 1]
                    answer = kept(judge, history[:many], first="z")[-1]
                    self.assertEqual(keeper(log), answer)
                    self.check(keeper, judge, history[:many - 1], "z")
                    self.assertEqual(keeper.tell(log), answer)
                    self.check(keeper, judge, history[:many], "z")
                for many in range(len(history)):
                    other = keeper.branch()
                    self.assertEqual(other.back(many), len(history) - 1 - many)
                    self.check(other, judge, history[:len(history) - many], "z")
                self.check(keeper, judge, history, "z")

    def test_ordinary(self):
        keeper = Keeper(ONCE, first="no")
        self.assertEqual(str(keeper), "keeper at 0 events, 0 flips, answer no")
        self.assertEqual([keeper.put(0, "a"), keeper.put(1, "b"), keeper.put(0, "b"), keeper.log], ["yes", "yes", "yes", ("b", "a", "b")])
        self.assertEqual([keeper.put(3, "a"), keeper.flips, len(keeper), str(keeper)],
                         ["no", 2, 4, "keeper at 4 events, 2 flips, answer no"])
        self.assertEqual([keeper.back(), keeper.answer, keeper.back(0), keeper.log], [3, "yes", 3, ("b", "a", "b")])

    def test_first_answer(self):
        self.assertEqual(Keeper(ONCE, first="zz").answers, ("no",))
        self.assertEqual(Keeper(LAST, first="zz").answers, ("zz",))
        self.assertIs(bool(Keeper(ONCE, first="zz")), False)

    def test_membership(self):
        keeper = Keeper(LAST, first="z")
        keeper.tell(("a", "b"))
        for log in plain.all_logs("ab", 3):
            self.assertIs(log in keeper, log in ((), ("a", "b")))
        for value in plain.WRONG_LOGS:
            self.assertIs(plain.unchanged(self, keeper.__contains__, value), False)

    def test_equality(self):
        one, other = Keeper(LAST, first="z"), Keeper(LAST, first="z")
        self.assertEqual(one, other)
        one.tell(("a",))
        self.assertNotEqual(one, other)
        other.tell(("a",))
        self.assertEqual(one, other)
        self.assertNotEqual(Keeper(LAST, first="z"), Keeper(LAST, first="y"))
        self.assertEqual(Keeper(ONCE, first="z"), Keeper(ONCE, first="y"))
        self.assertNotEqual(Keeper(ONCE, first="no"), Keeper(plain.TURNS, first="no"))
        more = Keeper(LAST, first="z")
        more.tell(())
        more.tell(("a",))
        self.assertNotEqual(more, one)
        # the same answers to other logs
        loose, near = Keeper(ONCE, first="no"), Keeper(ONCE, first="no")
        loose.tell(("b",))
        near.tell(("b", "b"))
        self.assertEqual([loose.answers, near.answers], [("no", "no"), ("no", "no")])
        self.assertNotEqual(loose, near)
        for value in plain.OTHERS + plain.NUMBERS + plain.SETS + ((), ONCE):
            self.assertIs(one == value, False)
            self.assertIs(one != value, True)

    def test_branches(self):
        keeper = Keeper(LAST, first="z")
        keeper.tell(("a",))
        other = keeper.branch()
        self.assertEqual(state_of(other), state_of(keeper))
        other.tell(("a", "b"))
        keeper.back()
        self.assertEqual([keeper.history, other.history], [((),), ((), ("a",), ("a", "b"))])

    def test_limits(self):
        keeper = Keeper((("a",), ((1,), (0,)), ("x", "y")), first="x")
        for log in WHOLE[1:]:
            keeper.tell(log)
        before = state_of(keeper)
        for call in (keeper.tell, keeper):
            self.assertEqual(plain.refused(self, TooMany, call, ("a",) * 199).limit, 200)
            self.assertEqual(plain.refused(self, TooMany, call, ("a",) * 200).limit, 200)
            plain.refused(self, InvalidOperation, call, ())
            plain.refused(self, InvalidLog, call, ("a",) * 201)
        self.assertEqual(plain.refused(self, TooMany, keeper.put, 0, "a").limit, 200)
        self.assertEqual(state_of(keeper), before)
        self.assertEqual([keeper.back(), keeper.tell(("a",) * 200), len(keeper), keeper.flips], [198, "x", 199, 198])
        plain.refused(self, InvalidLog, keeper.put, 0, "a")
        self.assertEqual(keeper.back(199), 0)
        keeper.tell(("a",) * 200)
        before = state_of(keeper)
        plain.refused(self, InvalidLog, keeper.put, 200, "a")
        self.assertEqual(plain.refused(self, InvalidNumber, keeper.put, 201, "a").value, 201)
        self.assertEqual(state_of(keeper), before)

    def test_refuses(self):
        for value in NO_JUDGES:
            plain.refused(self, InvalidJudge, Keeper, value, first=None)
        for value in plain.NO_NAMES:
            self.assertEqual(plain.refused(self, UnknownName, Keeper, ONCE, first=value).name, value)
        keeper = Keeper(ONCE, first="no")
        keeper.tell(("a", "b"))
        before = state_of(keeper)
        for value in plain.WRONG_LOGS:
            plain.refused(self, InvalidLog, keeper.tell, value)
            plain.refused(self, InvalidLog, keeper, value)
        for log in ((), ("a",), ("b", "a"), ("b", "a", "a")):
            plain.refused(self, InvalidOperation, keeper.tell, log)
            plain.refused(self, InvalidOperation, keeper, log)
        for value in plain.NO_NUMBERS + plain.SETS + (-1, 3, 10 ** 59):
            self.assertEqual(plain.refused(self, InvalidNumber, keeper.put, value, None).value, value)
        for value in plain.NO_NAMES + ("c", "ab"):
            self.assertEqual(plain.refused(self, UnknownName, keeper.put, 0, value).name, value)
        for value in NO_COUNTS:
            self.assertEqual(plain.refused(self, InvalidNumber, keeper.back, value).value, value)
        for value in (2, 200, 10 ** 59):
            self.assertEqual(plain.refused(self, NothingToUndo, keeper.back, value).many, value)
        self.assertEqual(state_of(keeper), before)
        self.assertEqual(plain.refused(self, NothingToUndo, Keeper(ONCE, first="no").back).many, 1)


class TrialTest(unittest.TestCase):

    def started(self):
        keeper = Keeper(LAST, first="z")
        keeper.tell(("a",))
        keeper.tell(("a", "b"))
        return keeper

    def test_block(self):
        keeper = self.started()
        before = state_of(keeper)
        with keeper.trial() as one:
            self.assertIs(one, keeper)
            keeper.tell(("a", "b", "a"))
            self.assertEqual([keeper.flips, len(keeper)], [3, 3])
        self.assertEqual(state_of(keeper), before)
        with keeper.trial():
            keeper.back(2)
            keeper.tell(("b",))
        self.assertEqual(state_of(keeper), before)

    def test_block_with_an_error(self):
        keeper = self.started()
        before = state_of(keeper)
        with self.assertRaises(ZeroDivisionError):
            with keeper.trial() as one:
                one.back()
                raise ZeroDivisionError()
        self.assertEqual(state_of(keeper), before)
        with self.assertRaises(InvalidOperation):
            with keeper.trial() as one:
                one.tell(("a", "b", "b"))
                one.tell(("b",))
        self.assertEqual(state_of(keeper), before)

    def test_blocks_in_blocks(self):
        keeper = self.started()
        before = state_of(keeper)
        with keeper.trial() as one:
            one.tell(("a", "b", "a"))
            inside = state_of(keeper)
            with one.trial() as other:
                other.back(3)
                self.assertEqual(keeper.history, ((),))
            self.assertEqual(state_of(keeper), inside)
            plain.refused(self, InvalidLog, one.tell, ("c",))
            self.assertEqual(state_of(keeper), inside)
        self.assertEqual(state_of(keeper), before)

    def test_a_block_counts_from_its_beginning(self):
        keeper = Keeper(LAST, first="z")
        block = keeper.trial()
        keeper.tell(("a",))
        with block as one:
            one.tell(("a", "b"))
        self.assertEqual(keeper.history, ((), ("a",)))

    def test_during(self):
        keeper = self.started()
        before = state_of(keeper)
        found = keeper.during((("a", "b", "a"), ("b", "a", "b", "a")), lambda one: (one is keeper, one.history, one.flips))
        self.assertEqual(found, (True, ((), ("a",), ("a", "b"), ("a", "b", "a"), ("b", "a", "b", "a")), 3))
        self.assertEqual(state_of(keeper), before)
        self.assertEqual(keeper.during((), len), 2)
        self.assertEqual(keeper.during((), lambda one: one.back(2)), 0)
        self.assertEqual(state_of(keeper), before)

    def test_during_refuses(self):
        keeper = self.started()
        before = state_of(keeper)
        asked = []
        for value in plain.OTHERS + plain.NUMBERS + plain.SETS + ([("a", "b")], "ab"):
            if value != ():
                plain.refused(self, InvalidOperation, keeper.during, value, None)
        for value in plain.WRONG_LOGS:
            with self.assertRaises(InvalidLog):
                keeper.during((("a", "b", "a"), value), asked.append)
            self.assertEqual(state_of(keeper), before)
        with self.assertRaises(InvalidOperation):
            keeper.during((("a", "b", "a"), ("a", "b")), asked.append)
        with self.assertRaises(TooMany):
            keeper.during((("a", "b"),) * 198, asked.append)
        self.assertEqual(keeper.during((("a", "b"),) * 197, len), 199)
        self.assertEqual((state_of(keeper), asked), (before, []))
        with self.assertRaises(ZeroDivisionError):
            keeper.during((("a", "b", "a"),), lambda one: 1 // 0)
        self.assertEqual(state_of(keeper), before)

    def test_what_is_returned_gives_no_access(self):
        keeper = self.started()
        before = copy.deepcopy(state_of(keeper))
        for value in (keeper.history, keeper.answers, keeper.log, keeper.judge):
            self.assertIsInstance(value, tuple)
        self.assertEqual(state_of(keeper), before)
        self.assertEqual(verdicts_of(keeper.judge), ("x", "y"))


if __name__ == "__main__":
    unittest.main()
