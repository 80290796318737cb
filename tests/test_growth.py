"""The class Growth."""

import unittest

import plain
from seldomflip.base.logs import Growth
from seldomflip.errors import InvalidLog, InvalidNumber, InvalidOperation, TooMany

SOME = Growth(("a", "b"), (1, "c"), (0, "b"))
NO_INSERTIONS = plain.OTHERS + plain.NUMBERS + (
    (), (0,), ("a",), (0, "a", "b"), [0, "a"], ("a", 0), (True, "a"), (False, "a"), (None, "a"), ("0", "a"), (3, "a"),
    (-1, "a"), (10 ** 59, "a"), (0, "A"), (0, ""), (0, plain.LONG_NAME), (0, 0), (0, None), (0, ("a",)), (0, ["a"]),
    ((0, "a"),), (0, "a1"))


def pair_of(growth):
    return (growth.begin, growth.end, growth.kept)


def all_growths(begin, letters, most):
    """All growths of the log by at most so many insertions."""
    if most == 0:
        return [Growth(begin)]
    found = []
    for shorter in all_growths(begin, letters, most - 1):
        given = tuple((gap, letter) for gap in range(len(begin) + 1) for letter in letters)
        old = inserted_of(shorter)
        found.append(shorter)
        found.extend(Growth(begin, *old, one) for one in given if len(old) == most - 1)
    return found


def inserted_of(growth):
    found = []
    for at, letter in enumerate(growth.end):
        if at not in growth.kept:
            found.append((sum(place < at for place in growth.kept), letter))
    return tuple(found)


class GrowthTest(unittest.TestCase):

    def test_ordinary(self):
        self.assertEqual(SOME.begin, ("a", "b"))
        self.assertEqual(SOME.end, ("b", "a", "c", "b"))
        self.assertEqual(SOME.kept, (1, 3))

    def test_letters_of_one_gap_stand_as_they_are_passed(self):
        growth = Growth(("x",), (0, "b"), (1, "d"), (0, "a"), (1, "c"), (0, "b"))
        self.assertEqual(pair_of(growth), (("x",), ("b", "a", "b", "x", "d", "c"), (3,)))

    def test_equal_letters_in_one_gap(self):
        growth = Growth(("a", "a"), (1, "a"), (1, "a"))
        self.assertEqual(pair_of(growth), (("a", "a"), ("a",) * 4, (0, 3)))
        self.assertEqual(len(growth), 2)

    def test_gaps_are_those_of_the_log_as_it_was(self):
        growth = Growth(("a", "b", "c"), (3, "z"), (0, "x"), (2, "y"))
        self.assertEqual(pair_of(growth), (("a", "b", "c"), ("x", "a", "b", "y", "c", "z"), (1, 2, 4)))

    def test_edges(self):
        self.assertEqual(pair_of(Growth(())), ((), (), ()))
        self.assertEqual(pair_of(Growth((), (0, "b"), (0, "a"))), ((), ("b", "a"), ()))
        self.assertEqual(pair_of(Growth(("a",))), (("a",), ("a",), (0,)))

    def test_limit(self):
        for begin, many in ((198, 1), (199, 1), (0, 200), (200, 0), (100, 100)):
            growth = Growth(("a",) * begin, *((0, "b"),) * many)
            self.assertEqual(growth.end, ("b",) * many + ("a",) * begin)
            self.assertEqual(growth.kept, tuple(range(many, many + begin)))
        for begin, many in ((200, 1), (199, 2), (0, 201)):
            error = plain.refused(self, TooMany, Growth, ("a",) * begin, *((0, "b"),) * many)
            self.assertEqual(error.limit, 200)

    def test_refuses(self):
        for value in plain.NO_LOGS:
            plain.refused(self, InvalidLog, Growth, value)
            plain.refused(self, InvalidLog, Growth, value, None)
        for value in NO_INSERTIONS:
            plain.refused(self, InvalidOperation, Growth, ("a", "b"), value)
            plain.refused(self, InvalidOperation, Growth, ("a", "b"), (0, "a"), value)
        plain.refused(self, InvalidOperation, Growth, plain.FULL, (0, "a"), (201, "a"))
        plain.refused(self, InvalidOperation, Growth, (), (1, "a"))

    def test_properties_stay(self):
        for name in ("begin", "end", "kept"):
            with self.assertRaises(AttributeError):
                setattr(SOME, name, ())
        self.assertEqual(pair_of(SOME), (("a", "b"), ("b", "a", "c", "b"), (1, 3)))


class BetweenTest(unittest.TestCase):

    def test_against_all_ways(self):
        for other in plain.all_logs("ab", 5):
            for log in plain.all_logs("ab", 3):
                ways = plain.ways(log, other)
                if ways:
                    growth = Growth.between(log, other)
                    self.assertIs(type(growth), Growth)
                    self.assertEqual(pair_of(growth), (log, other, min(ways)))
                    self.assertEqual(len(growth), len(other) - len(log))
                else:
                    plain.refused(self, InvalidOperation, Growth.between, log, other)

    def test_ordinary(self):
        growth = plain.unchanged(self, Growth.between, ("a", "b"), ("c", "a", "a", "b", "b"))
        self.assertEqual(growth.kept, (1, 3))

    def test_edges(self):
        self.assertEqual(pair_of(Growth.between((), ())), ((), (), ()))
        self.assertEqual(pair_of(Growth.between((), plain.FULL)), ((), plain.FULL, ()))
        self.assertEqual(pair_of(Growth.between(("b", "a"), ("b", "a"))), (("b", "a"), ("b", "a"), (0, 1)))
        self.assertEqual(Growth.between(plain.FULL[:199], plain.FULL).kept, tuple(range(199)))

    def test_refuses(self):
        for value in plain.NO_LOGS:
            plain.refused(self, InvalidLog, Growth.between, value, ("a",))
            plain.refused(self, InvalidLog, Growth.between, ("a",), value)
        plain.refused(self, InvalidOperation, Growth.between, ("a",), ())
        plain.refused(self, InvalidOperation, Growth.between, ("a", "b"), ("b", "a"))


class PlacesOfGrowthTest(unittest.TestCase):

    def test_both_directions(self):
        for growth in all_growths(("a", "b", "a"), "ac", 2):
            self.assertEqual([growth(at) for at in range(3)], list(growth.kept))
            for at, letter in enumerate(growth.end):
                old = growth.origin(at)
                if old is None:
                    self.assertNotIn(at, growth.kept)
                else:
                    self.assertEqual((growth(old), growth.begin[old]), (at, letter))

    def test_ordinary(self):
        self.assertEqual([SOME(0), SOME(1)], [1, 3])
        self.assertEqual([SOME.origin(at) for at in range(4)], [None, 0, None, 1])

    def test_bounds(self):
        growth = Growth(("a",) * 100, *((100, "b"),) * 100)
        self.assertEqual([growth(0), growth(99)], [0, 99])
        self.assertEqual([growth.origin(0), growth.origin(99), growth.origin(100), growth.origin(199)],
                         [0, 99, None, None])
        self.assertEqual(plain.refused(self, InvalidNumber, growth, 100).value, 100)
        self.assertEqual(plain.refused(self, InvalidNumber, growth.origin, 200).value, 200)

    def test_refuses(self):
        for value in plain.NO_NUMBERS + (2, -1, 4, 200, 10 ** 59, -(10 ** 59)):
            self.assertEqual(plain.refused(self, InvalidNumber, SOME, value).value, value)
        for value in plain.NO_NUMBERS + (4, -1, 200, 10 ** 59, -(10 ** 59)):
            self.assertEqual(plain.refused(self, InvalidNumber, SOME.origin, value).value, value)
        for call in (Growth(()), Growth(()).origin, Growth((), (0, "a"))):
            self.assertEqual(plain.refused(self, InvalidNumber, call, 0).value, 0)
        self.assertIs(plain.refused(self, InvalidNumber, SOME, True).value, True)


class SumTest(unittest.TestCase):

    def test_one_behind_the_other(self):
        for one in all_growths(("a", "b"), "ab", 2):
            for other in all_growths(one.end, "b", 1):
                both = one + other
                self.assertIs(type(both), Growth)
                self.assertEqual((both.begin, both.end), (one.begin, other.end))
                self.assertEqual(both.kept, tuple(other(one(at)) for at in range(len(one.begin))))
                self.assertEqual(len(both), len(one) + len(other))

    def test_changes_nothing(self):
        one, other = Growth(("a",), (0, "b")), Growth(("b", "a"), (1, "c"))
        both = one + other
        self.assertEqual(pair_of(both), (("a",), ("b", "c", "a"), (2,)))
        self.assertEqual(both, one + other)
        self.assertEqual(pair_of(one), (("a",), ("b", "a"), (1,)))
        self.assertEqual(pair_of(other), (("b", "a"), ("b", "c", "a"), (0, 2)))

    def test_edges(self):
        self.assertEqual(Growth(()) + Growth(()), Growth(()))
        self.assertEqual(SOME + Growth(SOME.end), SOME)
        self.assertEqual(Growth(SOME.begin) + SOME, SOME)
        half = Growth((), *((0, "a"),) * 100)
        self.assertEqual((half + Growth(half.end, *((0, "b"),) * 100)).end, ("b",) * 100 + ("a",) * 100)

    def test_refuses(self):
        def total(one, other):
            return one + other

        for value in plain.NO_LOGS + ((), ("a",), SOME, Growth(("b", "a")), Growth(("a", "b"))):
            plain.refused(self, InvalidOperation, total, SOME, value)


class StepsTest(unittest.TestCase):

    def test_all_steps_give_the_growth(self):
        for growth in all_growths(("a", "b"), "abc", 3):
            steps = list(growth.steps())
            self.assertEqual(len(steps), len(growth))
            total = Growth(growth.begin)
            for step in steps:
                self.assertIs(type(step), Growth)
                self.assertEqual(len(step), 1)
                total = total + step
            self.assertEqual(total, growth)

    def test_by_ascending_positions_in_the_end(self):
        steps = list(SOME.steps())
        self.assertEqual([pair_of(step) for step in steps], [
            (("a", "b"), ("b", "a", "b"), (1, 2)), (("b", "a", "b"), ("b", "a", "c", "b"), (0, 1, 3))])
        for growth in all_growths(("a", "b"), "ab", 3):
            new = [at for at in range(len(growth.end)) if at not in growth.kept]
            put = [[at for at in range(len(step.end)) if at not in step.kept][0] for step in growth.steps()]
            self.assertEqual(put, new)

    def test_edges(self):
        self.assertEqual(list(Growth(()).steps()), [])
        self.assertEqual(list(Growth(plain.FULL).steps()), [])
        ends = [step.end for step in Growth((), *((0, "a"),) * 200).steps()]
        self.assertEqual(ends, [("a",) * many for many in range(1, 201)])

    def test_equal_calls(self):
        growth = Growth(("a", "b"), (1, "c"), (0, "b"))
        waiting = growth.steps()
        self.assertEqual(list(growth.steps()), list(growth.steps()))
        self.assertEqual(next(waiting), Growth(("a", "b"), (0, "b")))
        self.assertEqual(growth, SOME)


class ValueTest(unittest.TestCase):

    def test_length_and_truth(self):
        self.assertEqual([len(Growth(())), len(Growth(("a",))), len(SOME)], [0, 0, 2])
        self.assertEqual([bool(Growth(())), bool(Growth(plain.FULL)), bool(SOME)], [False, False, True])
        self.assertEqual(len(Growth((), *((0, "a"),) * 200)), 200)

    def test_equal(self):
        self.assertIs(SOME == Growth(("a", "b"), (0, "b"), (1, "c")), True)
        self.assertIs(SOME != Growth(("a", "b"), (0, "b"), (1, "c")), False)
        self.assertIs(Growth((), (0, "a"), (0, "b")) == Growth((), (0, "b"), (0, "a")), False)

    def test_equal_only_with_equal_begin_end_and_kept(self):
        self.assertIs(Growth(("a",), (0, "a")) == Growth(("a",), (1, "a")), False)
        self.assertIs(Growth(("a",), (0, "b")) == Growth(("a",), (0, "c")), False)
        self.assertIs(Growth(("a",), (1, "b")) == Growth(("b",), (0, "a")), False)
        self.assertIs(Growth(("a", "b")) == Growth(("a",), (1, "b")), False)
        growths = all_growths(("a",), "ab", 2)
        for one in growths:
            for other in growths:
                self.assertIs(one == other, pair_of(one) == pair_of(other))

    def test_other_values(self):
        for value in plain.NO_LOGS + ((), ("a", "b"), pair_of(SOME)):
            self.assertIs(SOME == value, False)
            self.assertIs(SOME != value, True)

    def test_text(self):
        self.assertEqual(str(SOME), "growth from 2 to 4 events")
        self.assertEqual(str(Growth(())), "growth from 0 to 0 events")
        self.assertEqual(str(Growth((), (0, "a"))), "growth from 0 to 1 events")
        self.assertEqual(str(Growth(plain.FULL)), "growth from 200 to 200 events")


if __name__ == "__main__":
    unittest.main()
