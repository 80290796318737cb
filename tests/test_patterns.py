"""Patterns, their number, and what parts two logs."""

import random
import unittest
from itertools import islice, product

import plain
from seldomflip.base.patterns import alike, is_alike, number_of_patterns, parting, patterns
from seldomflip.errors import InvalidLog, InvalidNumber

WRONG_LONGEST = tuple(value for value in plain.NO_NUMBERS if value is not None) + (-1, -(10 ** 59))
WRONG_K = plain.NO_NUMBERS + (-1, 201, 10 ** 59, -(10 ** 59))
MANY_NAMES = tuple("".join(pair) for pair in product("abcdefghijklmno", repeat=2))[:200]


def first_pattern(*given, **named):
    return next(patterns(*given, **named))


class PatternsTest(unittest.TestCase):

    def test_against_all_places(self):
        for log in plain.all_logs("ab", 7) + plain.all_logs("abc", 5):
            wanted = plain.in_order(plain.patterns_of(log))
            self.assertEqual(list(patterns(log)), wanted)
            self.assertEqual(number_of_patterns(log), len(wanted))

    def test_longest_against_all_places(self):
        for log in plain.all_logs("ab", 5) + plain.all_logs("abc", 4):
            for longest in range(7):
                wanted = plain.in_order(plain.patterns_of(log, longest))
                self.assertEqual(list(patterns(log, longest=longest)), wanted)
                self.assertEqual(number_of_patterns(log, longest=longest), len(wanted))

    def test_longer_logs(self):
        for log in (tuple("abcabdacbdeb"), tuple("zyxwvu"), ("ab", "b", "a", "ab", "b", "a", "a", "ab")):
            wanted = plain.in_order(plain.patterns_of(log))
            self.assertEqual(plain.unchanged(self, lambda one: list(patterns(one)), log), wanted)
            self.assertEqual(plain.unchanged(self, number_of_patterns, log), len(wanted))

    def test_edges(self):
        self.assertEqual(list(patterns(())), [()])
        self.assertEqual(list(patterns((), longest=5)), [()])
        self.assertEqual(list(patterns(("b", "a"), longest=0)), [()])
        self.assertEqual(list(patterns(("b", "a"), longest=None)), [(), ("a",), ("b",), ("b", "a")])
        self.assertEqual(list(patterns(("b", "a"), longest=10 ** 59)), [(), ("a",), ("b",), ("b", "a")])
        self.assertEqual([number_of_patterns(()), number_of_patterns((), longest=0)], [1, 1])
        self.assertEqual([number_of_patterns(plain.FULL, longest=0), number_of_patterns(("a",), longest=None)], [1, 2])
        self.assertEqual(number_of_patterns(("b", "a"), longest=10 ** 59), 4)

    def test_bounds(self):
        for many in (199, 200):
            same = ("a",) * many
            self.assertEqual(list(patterns(same)), [same[:length] for length in range(many + 1)])
            self.assertEqual(number_of_patterns(same), many + 1)
        self.assertEqual(list(islice(patterns(plain.FULL), 5)), [(), ("a",), ("b",), ("a", "a"), ("a", "b")])
        self.assertEqual(list(patterns(MANY_NAMES, longest=1)), [()] + [(name,) for name in sorted(MANY_NAMES)])
        pairs = list(patterns(MANY_NAMES[::-1], longest=2))[201:]
        self.assertEqual(pairs, sorted((one, other) for one in MANY_NAMES for other in MANY_NAMES if one > other))

    def test_huge_numbers(self):
        self.assertEqual(number_of_patterns(MANY_NAMES), 2 ** 200)
        self.assertEqual(number_of_patterns(MANY_NAMES, longest=3), 1 + 200 + 19900 + 200 * 199 * 198 // 6)
        # behind one more event of two in turn there are as many more as behind the two before it, and one
        one, two = 1, 2
        for many in range(1, 201):
            self.assertEqual(number_of_patterns(plain.FULL[:many]), two)
            one, two = two, one + two + 1

    def test_lengths_near_the_whole(self):
        log = tuple("abc" * 66)
        wanted = sorted({log[:one] + log[one + 1:] for one in range(198)})
        skipped = number_of_patterns(log, longest=198) - number_of_patterns(log, longest=197)
        self.assertEqual(skipped, 1)
        self.assertEqual(number_of_patterns(log, longest=197) - number_of_patterns(log, longest=196), len(wanted))

    def test_refuses(self):
        for value in plain.NO_LOGS:
            plain.refused(self, InvalidLog, first_pattern, value)
            plain.refused(self, InvalidLog, first_pattern, value, longest=-1)
            plain.refused(self, InvalidLog, number_of_patterns, value, longest=True)
        for value in WRONG_LONGEST:
            for call in (first_pattern, number_of_patterns):
                self.assertEqual(plain.refused(self, InvalidNumber, call, ("a",), longest=value).value, value)
        self.assertIs(plain.refused(self, InvalidNumber, number_of_patterns, (), longest=True).value, True)

    def test_errors_wait_for_the_first_value(self):
        for waiting in (patterns(None), patterns(("a",), longest="a"), patterns(plain.TOO_LONG, longest=-1)):
            self.assertTrue(hasattr(waiting, "__next__"))


class PartingTest(unittest.TestCase):

    def test_against_all_patterns(self):
        logs = plain.all_logs("ab", 5)
        known = {log: plain.patterns_of(log) for log in logs}
        for log in logs:
            for other in logs:
                self.check(log, other, known[log] ^ known[other])

    def test_three_letters(self):
        logs = plain.all_logs("abc", 3)
        known = {log: plain.patterns_of(log) for log in logs}
        for log in logs:
            for other in logs:
                self.check(log, other, known[log] ^ known[other])

    def test_longer_logs(self):
        source = random.Random(3)
        logs = [log for log in plain.all_logs("abc", 3)]
        for log in logs:
            for other in logs:
                self.assertEqual(plain.first_unlike(log, other), parting(log, other))
        for most in (8, 12, 30, 200):
            for letters in ("a", "ab", "abc", "abcd"):
                for changes in (1, 2, 6, 200):
                    log = tuple(source.choice(letters) for _ in range(source.randint(most // 2, most)))
                    other = list(log)
                    for _ in range(min(changes, most)):
                        at = source.randrange(len(other))
                        other[at:at + source.randint(0, 2)] = [source.choice(letters) for _ in range(source.randint(0, 1))]
                        other = other or ["a"]
                    other = tuple(other)
                    first = plain.first_unlike(log, other)
                    self.assertEqual([parting(log, other), parting(other, log)], [first, first])
                    for k in (0, 1, 2, 3, 5, 200):
                        self.assertIs(is_alike(log, other, k), first is None or len(first) > k)

    def check(self, log, other, parts):
        first = plain.in_order(parts)[0] if parts else None
        self.assertEqual(parting(log, other), first)
        self.assertEqual(alike(log, other), None if first is None else len(first) - 1)
        for k in range(8):
            self.assertIs(is_alike(log, other, k), first is None or len(first) > k)

    def test_alike_against_the_definition(self):
        logs = plain.all_logs("ab", 4)
        for log in logs:
            for other in logs:
                for k in range(5):
                    self.assertIs(is_alike(log, other, k), plain.are_alike(log, other, k))

    def test_ordinary(self):
        one, other = tuple("abcab"), tuple("acbab")
        self.assertEqual(plain.unchanged(self, parting, one, other), ("b", "c"))
        self.assertEqual(plain.unchanged(self, alike, one, other), 1)
        self.assertIs(plain.unchanged(self, is_alike, one, other, 1), True)
        self.assertIs(plain.unchanged(self, is_alike, one, other, 2), False)

    def test_edges(self):
        for log in ((), ("a",), plain.FULL):
            self.assertIsNone(parting(log, log))
            self.assertIsNone(alike(log, log))
            for k in (0, 1, 200):
                self.assertIs(is_alike(log, log, k), True)
        self.assertEqual([parting((), ("b",)), parting(("b", "a"), ())], [("b",), ("a",)])
        self.assertEqual(alike((), ("b",)), 0)
        self.assertIs(is_alike((), plain.FULL, 0), True)
        self.assertIs(is_alike((), plain.FULL, 1), False)

    def test_bounds(self):
        same = ("a",) * 200
        self.assertEqual(parting(same, same[1:]), same)
        self.assertEqual(alike(same[1:], same), 199)
        self.assertEqual([is_alike(same, same[1:], k) for k in (198, 199, 200)], [True, True, False])
        other = plain.FULL[:198] + ("b", "a")
        found = parting(plain.FULL, other)
        self.assertEqual(found, ("a",) * 100 + ("b",))
        self.assertEqual(parting(MANY_NAMES, MANY_NAMES[:198] + MANY_NAMES[199:] + MANY_NAMES[198:199]), MANY_NAMES[198:])
        self.assertEqual(parting(MANY_NAMES, MANY_NAMES[:199]), MANY_NAMES[199:])

    def test_refuses(self):
        for value in plain.NO_LOGS:
            for call in (parting, alike):
                plain.refused(self, InvalidLog, call, value, ("a",))
                plain.refused(self, InvalidLog, call, ("a",), value)
            plain.refused(self, InvalidLog, is_alike, value, ("a",), -1)
            plain.refused(self, InvalidLog, is_alike, ("a",), value, -1)
        for value in WRONG_K:
            self.assertEqual(plain.refused(self, InvalidNumber, is_alike, ("a",), ("a",), value).value, value)


if __name__ == "__main__":
    unittest.main()
