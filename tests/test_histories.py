"""Histories: is_history, arrived, refined."""

import unittest
from itertools import product

import plain
from seldomflip.base.logs import Growth, arrived, is_history, refined
from seldomflip.errors import InvalidHistory, InvalidLog, InvalidOperation, TooMany

# ((),) is no log, but a history
NO_HISTORIES = tuple(value for value in plain.NO_LOGS if value != ((),)) + (
    (), ("a",), ((), ("b",), ("a",)), ((), ("a",), ()), (("a",),), ((), ("a", "b"), ("b", "a", "a")), ((), "a"),
    ((), ["a"]), [()], ((), ("A",)), ((), None), ((), ("a",) * 201), ((),) * 201, ((), (), ("a", ("b",))))


def plain_history(value):
    if len(value) == 0 or value[0] != ():
        return False
    return all(plain.is_below(log, other) for log, other in zip(value, value[1:]))


class IsHistoryTest(unittest.TestCase):

    def test_all_short_ones(self):
        logs = plain.all_logs("ab", 2)
        for many in range(5):
            for value in product(logs, repeat=many):
                self.assertIs(is_history(value), plain_history(value))

    def test_ordinary(self):
        for value in (((),), ((), ()), ((), ("b",), ("a", "b"), ("a", "b"), ("e", "a", "d", "b", "c"))):
            self.assertIs(plain.unchanged(self, is_history, value), True)

    def test_bounds(self):
        for many in (199, 200):
            self.assertIs(is_history(((),) * many), True)
            self.assertIs(is_history(tuple(plain.FULL[:length] for length in range(many))), True)
            self.assertIs(is_history(((), ("a",) * many)), True)
        self.assertIs(is_history(((),) * 201), False)
        self.assertIs(is_history(tuple(plain.FULL[:length] for length in range(201))), False)

    def test_accepts_every_value(self):
        for value in NO_HISTORIES:
            self.assertIs(plain.unchanged(self, is_history, value), False, value)


class ArrivedTest(unittest.TestCase):

    def test_all_orders(self):
        for log in plain.all_logs("ab", 4):
            for order in plain.orders(len(log)):
                wanted = tuple(tuple(log[at] for at in sorted(order[:many])) for many in range(len(log) + 1))
                self.assertEqual(arrived(log, order), wanted)

    def test_ordinary(self):
        found = plain.unchanged(self, arrived, ("a", "b", "c"), (2, 0, 1))
        self.assertEqual(found, ((), ("c",), ("a", "c"), ("a", "b", "c")))

    def test_edges(self):
        self.assertEqual(arrived((), ()), ((),))
        self.assertEqual(arrived(("a",), (0,)), ((), ("a",)))
        found = arrived(plain.FULL[:199], tuple(range(198, -1, -1)))
        self.assertEqual(found, tuple(plain.FULL[199 - many:199] for many in range(200)))
        self.assertIs(is_history(found), True)

    def test_limit(self):
        error = plain.refused(self, TooMany, arrived, plain.FULL, tuple(range(200)))
        self.assertEqual(error.limit, 200)

    def test_refuses(self):
        for value in plain.NO_LOGS:
            plain.refused(self, InvalidLog, arrived, value, ())
            plain.refused(self, InvalidLog, arrived, value, None)
        for value in plain.NO_LOGS + (
                (), (0,), (0, 0), (1, 1), (0, 2), (-1, 0), (0, -1), (0, 1, 2), [0, 1], (0, True), (False, 1),
                (False, True), (0, None), ("0", "1"), (0, "a"), (0, (1,)), (0, [1]), (0, 10 ** 59)):
            plain.refused(self, InvalidOperation, arrived, ("a", "b"), value)
        plain.refused(self, InvalidOperation, arrived, (), (0,))
        plain.refused(self, InvalidOperation, arrived, plain.FULL, tuple(range(199)) + (0,))


class RefinedTest(unittest.TestCase):

    def plain_refined(self, history):
        found = [()]
        for log, other in zip(history, history[1:]):
            kept = min(plain.ways(log, other))
            new = [at for at in range(len(other)) if at not in kept]
            for many in range(1, len(new) + 1):
                present = set(kept) | set(new[:many])
                found.append(tuple(other[at] for at in sorted(present)))
        return tuple(found)

    def test_all_short_ones(self):
        logs = plain.all_logs("ab", 4)
        for value in product(logs[:15], logs):
            history = ((),) + value
            if plain_history(history):
                self.assertEqual(refined(history), self.plain_refined(history))

    def test_ordinary(self):
        found = plain.unchanged(self, refined, ((), ("b",), ("b",), ("a", "b", "c", "b")))
        self.assertEqual(found, ((), ("b",), ("a", "b"), ("a", "b", "c"), ("a", "b", "c", "b")))

    def test_steps_of_between(self):
        steps = [step.end for step in Growth.between(("a", "b"), ("b", "a", "a", "b", "b")).steps()]
        self.assertEqual(refined(((), ("a",), ("a", "b"), ("b", "a", "a", "b", "b")))[3:], tuple(steps))

    def test_edges(self):
        self.assertEqual(refined(((),)), ((),))
        self.assertEqual(refined(((),) * 200), ((),))
        self.assertEqual(refined(((), ("a",), ("a",))), ((), ("a",)))
        found = refined(((), plain.FULL[:199]))
        self.assertEqual(found, tuple(plain.FULL[:length] for length in range(200)))
        whole = tuple(plain.FULL[:length] for length in range(200))
        self.assertEqual(refined(whole), whole)

    def test_limit(self):
        for history in (((), plain.FULL), ((), ("a",), plain.FULL, plain.FULL)):
            error = plain.refused(self, TooMany, refined, history)
            self.assertEqual(error.limit, 200)

    def test_refuses(self):
        for value in NO_HISTORIES:
            plain.refused(self, InvalidHistory, refined, value)


if __name__ == "__main__":
    unittest.main()
