"""Numbers of positions, allowed steps, the first alike log and papers."""

import random
import unittest
from itertools import product

import plain
from seldomflip.base.patterns import (
    after_steps, alike, alike_paper, first_alike, is_alike, is_alike_paper, is_allowed, left_numbers, parting,
    right_numbers)
from seldomflip.errors import InvalidLog, InvalidNumber, InvalidOperation

WRONG_K = plain.NO_NUMBERS + (-1, 201, 10 ** 59, -(10 ** 59))
NO_STEPS = plain.NO_LOGS + (
    (), ("out",), ("turn",), ("out", 0, 0), ("turn", 0, 1), ["out", 0], (0, "out"), ("OUT", 0), ("in", 0), ("", 0),
    (None, 0), (("out",), 0), (["out"], 0), ("out", True), ("out", False), ("turn", False), ("turn", True), ("out", "0"),
    ("out", None), ("out", (0,)), ("out", [0]), ("out", -1), ("out", 5), ("turn", -1), ("turn", 4), ("turn", 5),
    ("out", 10 ** 59), ("turn", 10 ** 59), ("out", -(10 ** 59)), (("out", 0),), "out")
LETTERS = tuple(a + b for a in "abcdefghijklmno" for b in "abcdefghijklmno")[:200]


def plain_left(log):
    found = []
    for end in range(len(log)):
        lengths = [len(one) for one in plain.patterns_of(log[:end + 1])
                   if one and min(plain.ways(one, log[:end + 1]))[-1] == end]
        found.append(min(lengths))
    return tuple(found)


def plain_right(log):
    return plain_left(log[::-1])[::-1]


def plain_allowed(log, k, step):
    return plain.are_alike(log, plain.behind(log, step), k)


class NumbersTest(unittest.TestCase):

    def test_against_all_patterns(self):
        for log in plain.all_logs("ab", 6) + plain.all_logs("abc", 4):
            self.assertEqual(left_numbers(log), plain_left(log))
            self.assertEqual(right_numbers(log), plain_right(log))

    def test_right_numbers_by_last_places(self):
        for log in plain.all_logs("ab", 5):
            for begin, number in enumerate(right_numbers(log)):
                lengths = [len(one) for one in plain.patterns_of(log[begin:])
                           if one and max(plain.ways(one, log[begin:]))[0] == 0]
                self.assertEqual(number, min(lengths))

    def test_ordinary(self):
        log = tuple("abacab")
        self.assertEqual(plain.unchanged(self, left_numbers, log), (1, 1, 2, 1, 2, 2))
        self.assertEqual(plain.unchanged(self, right_numbers, log), (3, 2, 2, 1, 1, 1))

    def test_edges(self):
        self.assertEqual([left_numbers(()), right_numbers(())], [(), ()])
        self.assertEqual([left_numbers(("a",)), right_numbers(("a",))], [(1,), (1,)])
        for many in (199, 200):
            self.assertEqual(left_numbers(("a",) * many), tuple(range(1, many + 1)))
            self.assertEqual(right_numbers(("a",) * many), tuple(range(many, 0, -1)))
        self.assertEqual(left_numbers(plain.FULL), (1,) + tuple(at // 2 + 1 for at in range(1, 200)))
        self.assertEqual(left_numbers(LETTERS), (1,) * 200)

    def test_refuses(self):
        for value in plain.NO_LOGS:
            plain.refused(self, InvalidLog, left_numbers, value)
            plain.refused(self, InvalidLog, right_numbers, value)


class IsAllowedTest(unittest.TestCase):

    def test_against_all_patterns(self):
        for log in plain.all_logs("ab", 6) + plain.all_logs("abc", 4):
            for step in plain.steps_of(log):
                for k in range(len(log) + 2):
                    self.assertIs(is_allowed(log, k, step), plain_allowed(log, k, step), (log, k, step))

    def test_by_the_numbers(self):
        for log in plain.all_logs("ab", 6):
            left, right = left_numbers(log), right_numbers(log)
            for at in range(len(log)):
                for k in range(6):
                    self.assertIs(is_allowed(log, k, ("out", at)), left[at] + right[at] > k + 1)

    def test_ordinary(self):
        log = tuple("aabab")
        self.assertIs(plain.unchanged(self, is_allowed, log, 2, ("out", 0)), True)
        self.assertIs(plain.unchanged(self, is_allowed, log, 2, ("out", 4)), False)
        self.assertIs(plain.unchanged(self, is_allowed, tuple("ba"), 1, ("turn", 0)), True)
        self.assertIs(plain.unchanged(self, is_allowed, tuple("ba"), 2, ("turn", 0)), False)

    def test_edges(self):
        self.assertIs(is_allowed((), 0, ("out", 0)), False)
        self.assertIs(is_allowed((), 200, ("turn", 0)), False)
        self.assertIs(is_allowed(("a",), 0, ("out", 0)), True)
        self.assertIs(is_allowed(("a",), 1, ("out", 0)), False)
        self.assertIs(is_allowed(("a", "a"), 0, ("turn", 0)), False)
        self.assertIs(is_allowed(("a", "a"), 1, ("turn", 0)), False)
        self.assertIs(is_allowed(("a", "b"), 0, ("turn", 0)), True)
        self.assertIs(is_allowed(("a", "b"), 0, ("turn", 1)), False)
        same = ("a",) * 200
        self.assertEqual([is_allowed(same, k, ("out", 199)) for k in (0, 199, 200)], [True, True, False])
        self.assertIs(is_allowed(plain.FULL, 0, ("turn", 198)), True)
        self.assertIs(is_allowed(plain.FULL, 0, ("turn", 199)), False)
        self.assertIs(is_allowed(plain.FULL, 200, ("turn", 100)), False)

    def test_accepts_every_value(self):
        for value in NO_STEPS:
            self.assertIs(plain.unchanged(self, is_allowed, tuple("abcde"), 0, value), False, value)

    def test_refuses(self):
        for value in plain.NO_LOGS:
            plain.refused(self, InvalidLog, is_allowed, value, -1, None)
        for value in WRONG_K:
            self.assertEqual(plain.refused(self, InvalidNumber, is_allowed, ("a",), value, None).value, value)


class AfterStepsTest(unittest.TestCase):

    def test_against_all_rows_of_steps(self):
        for log in plain.all_logs("ab", 3):
            for k in range(4):
                for first in plain.steps_of(log):
                    self.check(log, k, (first,))
                    for second in plain.steps_of(plain.behind(log, first)):
                        self.check(log, k, (first, second))

    def check(self, log, k, steps):
        end = log
        for step in steps:
            if not plain_allowed(end, k, step):
                plain.refused(self, InvalidOperation, after_steps, log, k, *steps)
                return
            end = plain.behind(end, step)
        self.assertEqual(after_steps(log, k, *steps), end)

    def test_ordinary(self):
        steps = (("turn", 3), ("out", 0), ("out", 0))
        self.assertEqual(plain.unchanged(self, after_steps, tuple("aabbab"), 1, *steps), tuple("babb"))

    def test_edges(self):
        self.assertEqual(after_steps((), 0), ())
        self.assertEqual(after_steps(plain.FULL, 200), plain.FULL)
        self.assertEqual(after_steps(plain.FULL, 0, *(("out", 0),) * 200), ())
        self.assertEqual(after_steps(("a",) * 200, 1, *(("out", 0),) * 199), ("a",))
        turns = tuple(("turn", at) for end in range(199, 0, -1) for at in range(end))
        self.assertEqual(after_steps(LETTERS[::-1], 1, *turns), LETTERS)

    def test_refuses(self):
        for value in plain.NO_LOGS:
            plain.refused(self, InvalidLog, after_steps, value, -1, None)
        for value in WRONG_K:
            self.assertEqual(plain.refused(self, InvalidNumber, after_steps, ("a",), value, None).value, value)
        for value in NO_STEPS:
            plain.refused(self, InvalidOperation, after_steps, tuple("abcde"), 0, value)
            plain.refused(self, InvalidOperation, after_steps, tuple("abcdef"), 0, ("out", 0), value)
        plain.refused(self, InvalidOperation, after_steps, ("a",) * 200, 1, *(("out", 0),) * 200)


class FirstAlikeTest(unittest.TestCase):

    def check(self, letters, most):
        for k in range(most + 2):
            firsts = {}
            for log in plain.all_logs(letters, most):
                known = frozenset(plain.patterns_of(log, k))
                wanted = firsts.setdefault(known, log)
                self.assertEqual(first_alike(log, k), wanted, (log, k))

    def test_two_letters(self):
        self.check("ab", 7)

    def test_three_letters(self):
        self.check("abc", 5)

    def test_four_letters(self):
        self.check("abcd", 4)

    def test_up_to_twelve_events(self):
        source = random.Random(17)
        for letters, most in (("a", 4), ("ab", 4), ("abc", 4), ("abcd", 4)):
            for k in range(most + 1):
                for many in range(13):
                    for _ in range(4 if len(letters) > 1 else 1):
                        log = tuple(source.choice(letters) for _ in range(many))
                        self.assertEqual(first_alike(log, k), plain.first_like(log, k), (log, k))

    def test_plain_search_for_longer_logs(self):
        for letters, most in (("ab", 6), ("abc", 4)):
            for k in range(4):
                firsts = {}
                for log in plain.all_logs(letters, most):
                    wanted = firsts.setdefault(frozenset(plain.patterns_of(log, k)), log)
                    self.assertEqual(plain.first_like(log, k), wanted)

    def test_logs_of_200_events(self):
        self.assertEqual(first_alike(plain.FULL, 0), ())
        self.assertEqual(first_alike(plain.FULL, 3), ("a", "b") * 3)
        self.assertEqual(first_alike(("a",) * 200, 5), ("a",) * 5)
        self.assertEqual(first_alike(("a",) * 200, 200), ("a",) * 200)

    def test_long_logs_take_few_steps(self):
        # lines of the package that are run for a call, which do not hang on the machine
        for log, k in ((plain.FULL, 0), (plain.FULL, 3), (("a",) * 200, 5), (("a",) * 200, 200)):
            self.assertLess(plain.lines_of(first_alike, log, k), 10000)
            self.assertLess(plain.lines_of(alike_paper, log, log[::-1], k), 30000)
            self.assertLess(plain.lines_of(alike_paper, log, log[1:], k), 30000)
        source = random.Random(9)
        for letters in ("ab", "abc", "abcd"):
            log, other = [tuple(source.choice(letters) for _ in range(200)) for _ in range(2)]
            for k in (0, 1, 3, 5, 20, 200):
                self.assertLess(plain.lines_of(first_alike, log, k), 10000)
                self.assertLess(plain.lines_of(alike_paper, log, log, k), 20000)
                self.assertLess(plain.lines_of(alike_paper, log, other, k), 120000)

    def test_longer_logs(self):
        source = random.Random(7)
        for many in (20, 60, 200):
            for letters in ("ab", "abcd", "abcdefghijklmnop"):
                log = tuple(source.choice(letters) for _ in range(many))
                for k in (1, 2, 3, 5, 9, 14):
                    first = first_alike(log, k)
                    self.assertIs(is_alike(log, first, k), True)
                    self.assertEqual(first_alike(first, k), first)
                    allowed = [step for step in plain.steps_of(first) if is_allowed(first, k, step)]
                    self.assertTrue(all(step[0] == "turn" and plain.behind(first, step) > first for step in allowed))

    def test_ordinary(self):
        self.assertEqual(plain.unchanged(self, first_alike, tuple("cabbac"), 1), tuple("abc"))
        self.assertEqual(plain.unchanged(self, first_alike, tuple("aabbb"), 2), tuple("aabb"))

    def test_edges(self):
        self.assertEqual(first_alike((), 0), ())
        self.assertEqual(first_alike((), 200), ())
        self.assertEqual(first_alike(plain.FULL, 0), ())
        self.assertEqual(first_alike(plain.FULL, 1), ("a", "b"))
        self.assertEqual(first_alike(plain.FULL, 200), plain.FULL)
        self.assertEqual(first_alike(("a",) * 200, 199), ("a",) * 199)
        self.assertEqual(first_alike(LETTERS[::-1], 1), LETTERS)
        self.assertEqual(first_alike(LETTERS[::-1], 2), LETTERS[::-1])

    def test_refuses(self):
        for value in plain.NO_LOGS:
            plain.refused(self, InvalidLog, first_alike, value, -1)
        for value in WRONG_K:
            self.assertEqual(plain.refused(self, InvalidNumber, first_alike, ("a",), value).value, value)


def plain_end(log, k, steps):
    if not isinstance(steps, tuple):
        return None
    for step in steps:
        if step not in plain.steps_of(log) or not plain_allowed(log, k, step):
            return None
        log = plain.behind(log, step)
    return log


def plain_paper(log, other, k, value):
    """Whether the value is a paper, by the definition; the value is a tuple of a string and tuples."""
    if value[0] == "alike" and len(value) == 3:
        end = plain_end(log, k, value[1])
        return end is not None and end == plain_end(other, k, value[2])
    if value[0] == "parted" and len(value) == 2:
        pattern = value[1]
        return len(pattern) <= k and plain.is_below(pattern, log) != plain.is_below(pattern, other)
    return False


class AlikePaperTest(unittest.TestCase):

    def test_all_short_logs(self):
        for letters, most in (("ab", 4), ("abc", 3)):
            logs = plain.all_logs(letters, most)
            for log in logs:
                for other in logs:
                    for k in range(5):
                        paper = alike_paper(log, other, k)
                        kind = "alike" if plain.are_alike(log, other, k) else "parted"
                        self.assertEqual(paper[0], kind)
                        self.assertIs(plain_paper(log, other, k, paper), True)
                        self.assertIs(is_alike_paper(log, other, k, paper), True)

    def test_all_patterns_as_papers(self):
        logs = plain.all_logs("ab", 3)
        for log in logs:
            for other in logs:
                for k in range(4):
                    for pattern in logs:
                        value = ("parted", pattern)
                        self.assertIs(is_alike_paper(log, other, k, value), plain_paper(log, other, k, value))

    def test_all_steps_as_papers(self):
        logs = plain.all_logs("ab", 3)
        rows = [()] + [(step,) for step in product(("out", "turn"), range(3))]
        for log, other in product(logs, logs):
            for k, one, two in product(range(3), rows, rows):
                value = ("alike", one, two)
                self.assertIs(is_alike_paper(log, other, k, value), plain_paper(log, other, k, value))

    def test_papers_of_others(self):
        one, other = tuple("abba"), tuple("ab")
        for value in (("alike", (("out", 1), ("out", 2)), ()), ("alike", (("out", 3), ("out", 1)), ()),
                      ("alike", (("out", 0), ("out", 1), ("turn", 0)), ()),
                      ("alike", (("turn", 0), ("out", 0), ("out", 2)), (("turn", 0), ("turn", 0)))):
            self.assertIs(plain_paper(one, other, 1, value), True)
            self.assertIs(plain.unchanged(self, is_alike_paper, one, other, 1, value), True)
        for value in (("parted", ("b", "a")), ("parted", ("b", "b")), ("parted", ("a", "a")), ("parted", one)):
            self.assertIs(plain.unchanged(self, is_alike_paper, one, other, 4, value), True)
        self.assertIs(is_alike_paper(one, other, 3, ("parted", one)), False)

    def test_equal_logs(self):
        for log in ((), ("a",), plain.FULL):
            for k in (0, 1, 200):
                self.assertEqual(alike_paper(log, log, k)[0], "alike")
                self.assertIs(is_alike_paper(log, log, k, ("alike", (), ())), True)
                self.assertIs(is_alike_paper(log, log, k, ("parted", log)), False)
                self.assertIs(is_alike_paper(log, log, k, ("parted", ())), False)

    def test_bounds(self):
        source = random.Random(5)
        for letters in ("a", "ab", "abcd", "abcdefghijklmnopqrstuvwxyz"):
            log = tuple(source.choice(letters) for _ in range(200))
            other = tuple(source.choice(letters) for _ in range(199))
            for k in (0, 1, 2, 5, 20, 199, 200):
                self.check_bound(log, other, k)
                self.check_bound(log, log[:99] + log[100:], k)
        self.check_bound(LETTERS[::-1], LETTERS, 1)
        self.check_bound(LETTERS[::-1], LETTERS, 2)
        self.check_bound(("a",) * 200, ("a",) * 199, 199)
        self.check_bound(("a",) * 200, ("a",) * 199, 200)

    def check_bound(self, log, other, k):
        paper = plain.unchanged(self, alike_paper, log, other, k)
        pattern = parting(log, other)
        if pattern is None or len(pattern) > k:
            self.assertEqual((paper[0], len(paper)), ("alike", 3))
            self.assertEqual(after_steps(log, k, *paper[1]), after_steps(other, k, *paper[2]))
        else:
            self.assertEqual((paper[0], len(paper)), ("parted", 2))
            self.assertGreater(len(paper[1]), alike(log, other))
        self.assertIs(is_alike_paper(log, other, k, paper), True)

    def test_accepts_every_value(self):
        one, other = tuple("abcde"), tuple("abcdee")
        parts = NO_STEPS + tuple((value,) for value in NO_STEPS)
        for k in (0, 5, 6):
            for value in NO_STEPS:
                self.assertIs(plain.unchanged(self, is_alike_paper, one, other, k, value), False, value)
            for part in parts:
                for value in (("alike", part), ("alike", part, part), ("alike", part, part, ()), (part, (), ()),
                              ("parted", part, part), (part, other), ("alike", (("out", 0),), (part,))):
                    self.assertIs(plain.unchanged(self, is_alike_paper, one, other, k, value), False, value)
        self.assertIs(is_alike_paper(one, other, 6, ("parted", other)), True)
        self.assertIs(is_alike_paper(one, other, 6, ["parted", other]), False)
        self.assertIs(is_alike_paper(one, other, 6, ("parted", list(other))), False)
        self.assertIs(is_alike_paper(one, other, 6, ("Parted", other)), False)
        self.assertIs(is_alike_paper(one, other, 6, ("parted",)), False)
        self.assertIs(is_alike_paper(one, other, 0, ("alike", (("out", 0),) * 5, (("out", 0),) * 6)), True)
        self.assertIs(is_alike_paper(one, other, 0, ("alike", [("out", 0)] * 5, (("out", 0),) * 6)), False)
        self.assertIs(is_alike_paper(one, other, 0, ("alike", (("out", 0),) * 5, [("out", 0)] * 6)), False)
        for word in ("Alike", "parted", "", None, 0, ("alike",)):
            self.assertIs(is_alike_paper((), (), 0, (word, (), ())), False)
        for word in ("Parted", "alike", "", None, 0, ("parted",)):
            self.assertIs(is_alike_paper((), ("a",), 1, (word, ("a",))), False)
        self.assertIs(is_alike_paper((), (), 0, ("alike", (), [])), False)
        self.assertIs(is_alike_paper((), (), 0, ("alike", [], ())), False)

    def test_no_log_as_a_pattern(self):
        for value in plain.NO_LOGS:
            self.assertIs(is_alike_paper(("a",), ("b",), 200, ("parted", value)), False)

    def test_refuses(self):
        for call, rest in ((alike_paper, ()), (is_alike_paper, (None,))):
            for value in plain.NO_LOGS:
                plain.refused(self, InvalidLog, call, value, ("a",), -1, *rest)
                plain.refused(self, InvalidLog, call, ("a",), value, -1, *rest)
            for value in WRONG_K:
                self.assertEqual(plain.refused(self, InvalidNumber, call, ("a",), ("a",), value, *rest).value, value)


if __name__ == "__main__":
    unittest.main()
