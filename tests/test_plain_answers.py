"""Plain answerers, fillings, tables and knots."""

import itertools
import random
import unittest
from unittest import mock

import plain
from plain import AB, FREE, LAST, ONCE, THREE, TURNS, label
from seldomflip.errors import InvalidJudge, InvalidLog, InvalidNumber, InvalidOperation, TooMany, Unlimited
from seldomflip.judges.histories import flips
from seldomflip.judges.judges import is_total, least_judge, verdict_of, verdicts_of
from seldomflip.judges.plain import (
    best_filling, fillings, is_knot, is_plain, is_table, least_table, shrunk_knot, table_flips, worst_flips, worst_history)
from seldomflip.towers.ladders import least_ladder
from seldomflip.towers.swings import best_firsts, greatest_swing, number
from seldomflip.towers.towers import heights, is_tower
from test_towers import WIDER, chain_judge

SMALL = plain.some_machines(131, 60, "ab", 4, (None, "p", "q")) + plain.some_machines(132, 50, "ab", 5, (None, "p", "q", "r")) + (
    plain.some_machines(133, 15, "a", 5, (None, "p", "q"))) + [FREE, LAST, ONCE, THREE, TURNS]
WITH = [judge for judge in SMALL if verdicts_of(judge)]
TOTAL = plain.some_machines(134, 60, "ab", 4, ("p", "q", "r")) + plain.some_machines(135, 20, "ab", 5, ("p", "q")) + [ONCE, TURNS]
PAIRS = ((), ("a",), ("b",), ("c",), ("a", "a"), ("a", "b"), ("a", "c"), ("b", "c"))
THIRTEEN = tuple(("a",) * many for many in range(13))
NO_TUPLES = plain.OTHERS + plain.NUMBERS + plain.SETS + (
    [("a",)], (("a",), ("a",)), ("a",), (("c",),), ((), None), ((), ["a"]), THIRTEEN, {(): "no"}, (((),),), (plain.TOO_LONG,))
NO_MOST = plain.NO_NUMBERS + plain.SETS + (61, -1, 10 ** 59, -(10 ** 59))


def some_tuples(seed, judge, many, most=6):
    """Tuples of different logs in any order."""
    source = random.Random(seed)
    logs = plain.all_logs(judge[0], 3)
    return [tuple(source.sample(logs, source.randint(0, min(len(logs), most)))) for _ in range(many)]


def plain_flips(table):
    """The flips of a table, by going through all rows."""
    def most(log):
        behind = [other for other in table if other != log and plain.fits(log, other)]
        return max([0] + [most(other) + (table[log] != table[other]) for other in behind])

    return max([most(log) for log in table], default=0)


def all_tables(judge, logs):
    """All tables of the logs, in the order of the verdicts by the order of logs."""
    row = plain.in_order(logs)
    choices = [verdicts_of(judge) if verdict_of(judge, log) is None else (verdict_of(judge, log),) for log in row]
    return [dict(zip(row, verdicts)) for verdicts in itertools.product(*choices)]


class PlainTest(unittest.TestCase):

    def test_is_plain(self):
        for judge in SMALL:
            for value in TOTAL[::6] + [least_judge(one) for one in WITH[::8]]:
                wanted = value[0] == judge[0] and is_total(value) and set(verdicts_of(value)) <= set(verdicts_of(judge))
                wanted = wanted and all(label(judge, log) in (None, label(value, log)) for log in plain.all_logs(judge[0], 6))
                self.assertIs(is_plain(judge, value), wanted)
        self.assertTrue(is_plain(ONCE, ONCE))
        self.assertFalse(is_plain(LAST, LAST))
        self.assertTrue(is_plain(LAST, (AB, LAST[1], ("x", "x", "y"))))
        self.assertFalse(is_plain(LAST, (AB, LAST[1], ("z", "x", "y"))))
        # a verdict that no log has does not count
        self.assertTrue(is_plain(LAST, (AB, LAST[1] + ((0, 0),), ("x", "x", "y", "z"))))
        self.assertFalse(is_plain(LAST, (("a", "c"), LAST[1], ("x", "x", "y"))))
        for value in plain.NO_JUDGES[::3] + plain.SETS:
            self.assertIs(is_plain(ONCE, value), False)

    def test_worst_flips(self):
        for judge in TOTAL:
            many = plain.unchanged(self, worst_flips, judge)
            high = heights(judge)[verdict_of(judge, ())]
            self.assertEqual(many, None if high is None else high - 1)
            if many is None:
                self.assertEqual(plain.refused(self, Unlimited, worst_history, judge).swing, greatest_swing(judge))
                continue
            history = plain.unchanged(self, worst_history, judge)
            self.assertEqual(history[0], ())
            self.assertTrue(all(plain.fits(log, other) for log, other in zip(history, history[1:])))
            self.assertEqual(flips(tuple(label(judge, log) for log in history)), many)
        self.assertEqual((worst_flips(chain_judge(40)), len(worst_history(chain_judge(40)))), (39, 40))
        self.assertEqual((worst_flips((AB, ((0, 0),), ("no",))), worst_history((AB, ((0, 0),), ("no",)))), (0, ((),)))

    def test_no_history_is_worse(self):
        source = random.Random(6)
        for judge in TOTAL:
            for _ in range(20):
                log = tuple(source.choice(AB) for _ in range(8))
                order = source.sample(range(8), 8)
                history = [tuple(log[at] for at in sorted(order[:length])) for length in range(9)]
                many = flips(tuple(label(judge, one) for one in history))
                self.assertLessEqual(many, 9 if worst_flips(judge) is None else worst_flips(judge))

    def test_number_is_not_undercut(self):
        # [13.2]
        for judge in WITH:
            if number(judge) is not None:
                best = worst_flips(best_filling(judge))
                self.assertGreaterEqual(99 if best is None else best, number(judge))
                verdicts = verdicts_of(judge)
                if len(verdicts) == 2:
                    first = best_firsts(judge)[0]
                    other = verdicts[0] if first == verdicts[1] else verdicts[1]
                    answerer = least_ladder(judge, first, other).as_judge()
                    self.assertEqual(worst_flips(answerer), number(judge))
                    self.assertTrue(is_plain(judge, answerer))
        self.assertEqual(number(THREE), 1)

    def test_too_many_comes_ahead_of_unlimited(self):
        judge = (("a", "b", "c"), ((0, 1, 2), (0, 1, 2), (2, 2, 2)), ("x", "y", "x"))
        plain.refused(self, Unlimited, worst_history, judge)
        with mock.patch("seldomflip.towers.rounds.MAX_STATES", 1):
            for call in (worst_history, worst_flips):
                self.assertEqual(plain.refused(self, TooMany, call, judge).limit, 1)

    def test_refuses(self):
        for judge in plain.NO_JUDGES[::5]:
            for call in (worst_flips, worst_history, best_filling, lambda one: next(fillings(one))):
                plain.refused(self, InvalidJudge, call, judge)
            for call in (is_plain, least_table):
                plain.refused(self, InvalidJudge, call, judge, None)
            for call in (is_table, table_flips):
                plain.refused(self, InvalidJudge, call, judge, None, None)
            for call in (is_knot, shrunk_knot):
                plain.refused(self, InvalidJudge, call, judge, None, most=None)
        for call in (worst_flips, worst_history):
            for judge in (LAST, FREE, THREE):
                plain.refused(self, InvalidOperation, call, judge)
            total = (WIDER[0], WIDER[1], tuple(one or "z" for one in WIDER[2]))
            self.assertEqual(plain.refused(self, TooMany, call, total).limit, 200)


class FillingsTest(unittest.TestCase):

    def test_all(self):
        for judge in WITH:
            small = least_judge(judge)
            free = [at for at, verdict in enumerate(small[2]) if verdict is None]
            wanted = []
            for names in itertools.product(verdicts_of(judge), repeat=len(free)):
                labels = list(small[2])
                for at, name in zip(free, names):
                    labels[at] = name
                wanted.append(least_judge((small[0], small[1], tuple(labels))))
            found = list(fillings(judge))
            self.assertEqual(found, wanted)
            self.assertTrue(all(is_plain(judge, one) for one in found))
            worths = [10 ** 9 if worst_flips(one) is None else worst_flips(one) for one in found]
            self.assertEqual(plain.unchanged(self, best_filling, judge), found[worths.index(min(worths))])

    def test_edges(self):
        for call in (best_filling, lambda one: next(fillings(one))):
            plain.refused(self, InvalidOperation, call, FREE)
            plain.refused(self, InvalidOperation, call, (AB, ((0, 0), (1, 1)), (None, "no")))
            # with two verdicts nine free states can be filled, and ten cannot
            self.assertEqual(plain.refused(self, TooMany, call, plain.tail_judge((None,) * 10 + ("p", "q"), 11)).limit, 1000)
            self.assertEqual(plain.refused(self, TooMany, call, plain.tail_judge((None,) * 5 + ("p", "q", "r", "s"), 8)).limit, 1000)
        self.assertEqual(len(list(fillings(plain.tail_judge((None,) * 9 + ("p", "q"), 10)))), 512)
        self.assertEqual(len(list(fillings(plain.tail_judge((None,) * 3 + tuple("pqrst") + ("p",), 8)))), 125)
        self.assertEqual(worst_flips(best_filling(plain.tail_judge((None,) * 9 + ("p", "q"), 10))), 1)
        # one verdict only, and many free states: one filling
        self.assertEqual(list(fillings(plain.tail_judge((None,) * 39 + ("p",), 39))), [(("a",), ((0,),), ("p",))])

    def test_a_thousand(self):
        # no judge has ten verdicts, so the number of fillings is never just a thousand
        self.assertEqual(len(list(fillings(plain.tail_judge((None,) * 6 + ("p", "q", "r"), 8)))), 729)
        plain.refused(self, TooMany, best_filling, plain.tail_judge((None,) * 7 + ("p", "q", "r"), 9))

    def test_rounds_of_fillings(self):
        self.assertEqual(plain.refused(self, TooMany, best_filling, WIDER).limit, 1000)
        free = WIDER[2].index(None)
        nearly = (WIDER[0], WIDER[1], tuple(None if at == free else one or "z" for at, one in enumerate(WIDER[2])))
        self.assertEqual(len(list(fillings(nearly))), 3)
        self.assertEqual(plain.refused(self, TooMany, best_filling, nearly).limit, 200)

    def test_three(self):
        # [13.2]
        found = list(fillings(THREE))
        self.assertEqual(len(found), 9)
        self.assertEqual(min(worst_flips(one) for one in found), 2)


class TablesTest(unittest.TestCase):

    def test_flips(self):
        for at, judge in enumerate(WITH):
            for logs in some_tuples(at, judge, 4, 5):
                for table in all_tables(judge, logs)[:40]:
                    self.assertIs(is_table(judge, logs, table), True)
                    self.assertEqual(plain.unchanged(self, table_flips, judge, logs, table), plain_flips(table))

    def test_least(self):
        for at, judge in enumerate(WITH):
            for logs in some_tuples(at + 500, judge, 4, 6):
                tables = all_tables(judge, logs)
                worths = [plain_flips(table) for table in tables]
                found = plain.unchanged(self, least_table, judge, logs)
                self.assertEqual(found, tables[worths.index(min(worths))])
                # the keys of a dict that is returned ascend
                self.assertEqual(list(found), sorted(found))
                for most in range(4):
                    self.assertIs(is_knot(judge, logs, most=most), min(worths) > most)

    def test_is_table(self):
        logs = ((), ("a",), ("b", "a"))
        table = {(): "x", ("a",): "x", ("b", "a"): "x"}
        self.assertTrue(is_table(LAST, logs, table))
        self.assertTrue(is_table(LAST, logs[::-1], table))
        for value in plain.OTHERS + plain.NUMBERS + plain.SETS + (
                list(table.items()), {**table, (): "z"}, {**table, (): None}, {**table, ("a",): "y"}, {**table, ("b",): "y"},
                {(): "x", ("a",): "x"}, {**table, (): 1}, {(): "x", ("a",): "x", ("b", "b"): "y"}):
            self.assertIs(is_table(LAST, logs, value), False)
            plain.refused(self, InvalidOperation, table_flips, LAST, logs, value)
        self.assertIs(is_table(LAST, (), {}), True)
        self.assertEqual(table_flips(LAST, (), {}), 0)
        self.assertEqual(least_table(LAST, ()), {})
        self.assertIs(is_table(FREE, (), {}), True)
        self.assertIs(is_table(FREE, ((),), {(): None}), False)

    def test_without_verdicts(self):
        self.assertEqual(least_table(FREE, ()), {})
        plain.refused(self, InvalidOperation, least_table, FREE, ((),))
        self.assertIs(is_knot(FREE, ((),), most=60), True)
        self.assertIs(is_knot(FREE, (), most=0), False)
        self.assertEqual(shrunk_knot(FREE, (("a",), (), ("b",)), most=7), (("a",),))

    def test_twelve_logs(self):
        twelve = THIRTEEN[:12]
        turns = plain.tail_judge(("p", "q") * 20, 39)
        self.assertEqual(table_flips(turns, twelve, {log: "pq"[len(log) % 2] for log in twelve}), 11)
        self.assertTrue(is_knot(turns, twelve, most=10))
        self.assertFalse(is_knot(turns, twelve, most=11))
        self.assertFalse(is_knot(turns, twelve, most=60))
        self.assertFalse(is_knot(turns, THIRTEEN, most=0))
        free = (AB, ((0, 1), (1, 1)), (None, "p"))
        self.assertEqual(set(least_table(free, tuple(plain.all_logs(AB, 3)[:12])).values()), {"p"})

    def test_refuses(self):
        for value in NO_TUPLES:
            plain.refused(self, InvalidLog, is_table, ONCE, value, {})
            plain.refused(self, InvalidLog, table_flips, ONCE, value, None)
            plain.refused(self, InvalidLog, least_table, ONCE, value)
            plain.refused(self, InvalidLog, least_table, FREE, (("c",),))
            plain.refused(self, InvalidLog, shrunk_knot, ONCE, value, most=None)


class KnotTest(unittest.TestCase):

    def test_three(self):
        self.assertTrue(is_knot(THREE, PAIRS, most=1))
        self.assertFalse(is_knot(THREE, PAIRS, most=2))
        small = shrunk_knot(THREE, PAIRS, most=1)
        self.assertEqual(small, PAIRS[:4] + PAIRS[5:])
        for log in small:
            self.assertFalse(is_knot(THREE, tuple(one for one in small if one != log), most=1))
        self.assertTrue(all(worst_flips(one) > 1 for one in fillings(THREE)))

    def test_shrunk(self):
        for at, judge in enumerate(WITH):
            for logs in some_tuples(at + 900, judge, 3, 8):
                for most in (0, 1):
                    if not is_knot(judge, logs, most=most):
                        plain.refused(self, InvalidOperation, shrunk_knot, judge, logs, most=most)
                        continue
                    wanted = logs
                    for log in logs[::-1]:
                        rest = tuple(one for one in wanted if one != log)
                        if is_knot(judge, rest, most=most):
                            wanted = rest
                    self.assertEqual(plain.unchanged(self, shrunk_knot, judge, logs, most=most), wanted)

    def test_knots_force_plain_answerers(self):
        for at, judge in enumerate(WITH[:50]):
            for logs in some_tuples(at + 300, judge, 3):
                for answerer in list(fillings(judge))[:8]:
                    many = worst_flips(answerer)
                    if many is not None and many < 4:
                        self.assertFalse(is_knot(judge, logs, most=many))

    def test_wrong_arguments(self):
        for value in NO_TUPLES:
            self.assertIs(is_knot(ONCE, value, most=0), False)
        for value in NO_MOST:
            self.assertEqual(plain.refused(self, InvalidNumber, is_knot, ONCE, PAIRS, most=value).value, value)
            plain.refused(self, InvalidNumber, shrunk_knot, THREE, PAIRS, most=value)
        plain.refused(self, InvalidOperation, shrunk_knot, THREE, PAIRS, most=2)
        self.assertTrue(is_tower(ONCE, worst_history(ONCE)))


if __name__ == "__main__":
    unittest.main()
