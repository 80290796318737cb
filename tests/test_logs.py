"""Letters and logs: stage 1 up to minimal_of."""

import unittest
from itertools import islice, product

import plain
from seldomflip.base.logs import (
    MAX_EVENTS, first_above, first_places, growths, is_letters, is_log, last_places, make_letters, minimal_of, occurs,
    shrinkings, sorted_logs)
from seldomflip.errors import InvalidLetters, InvalidLog, TooMany

NO_LETTERS = plain.NO_LOGS + (
    (), ("b", "a"), ("a", "a"), ("a", "b", "b"), ("a", "b", "c", "d", "e"), ["a", "b"], ("a", "b", 1), ("a", ("b",)))
FOUR = ("a", "b", "c", "d")
MANY_NAMES = tuple(sorted("".join(pair) for pair in product("abcdefghijklmno", repeat=2)))[:200]


class LettersTest(unittest.TestCase):

    def test_is_letters(self):
        for value in (("a",), ("z",), ("a", "b"), FOUR, ("aa", "ab", "b"), (plain.WHOLE_NAME,), ("a", "aa", "ab", "b")):
            self.assertIs(plain.unchanged(self, is_letters, value), True)

    def test_is_letters_accepts_every_value(self):
        for value in NO_LETTERS:
            self.assertIs(plain.unchanged(self, is_letters, value), False, value)

    def test_each_sign_of_a_letter(self):
        signs = [chr(number) for number in range(128)]
        for sign in signs:
            is_small = "a" <= sign <= "z"
            self.assertIs(is_letters((sign,)), is_small, sign)
            self.assertIs(is_letters(("a" + sign + "b",)), is_small, sign)
            self.assertIs(is_log(("a",), (sign,)), sign == "a")

    def test_make_letters(self):
        self.assertEqual(plain.unchanged(self, make_letters, "b", "a", "b"), ("a", "b"))
        self.assertEqual(make_letters("a"), ("a",))
        self.assertEqual(make_letters(plain.WHOLE_NAME), (plain.WHOLE_NAME,))
        self.assertEqual(make_letters("d", "c", "b", "a"), FOUR)
        self.assertEqual(make_letters(*("ba", "b", "ab", "a") * 3), ("a", "ab", "b", "ba"))

    def test_make_letters_refuses(self):
        plain.refused(self, InvalidLetters, make_letters)
        plain.refused(self, InvalidLetters, make_letters, "a", "b", "c", "d", "e")
        for value in plain.OTHERS + plain.NUMBERS + (("a",), "A", "a1", plain.LONG_NAME, "a b", ["a"]):
            if value != "a" and value != "ab":
                plain.refused(self, InvalidLetters, make_letters, value)
                plain.refused(self, InvalidLetters, make_letters, "a", value)


class IsLogTest(unittest.TestCase):

    def test_is_log(self):
        for value in ((), ("a",), ("b", "a", "b"), ("a",) * 199, ("a",) * 200, plain.FULL):
            self.assertIs(plain.unchanged(self, is_log, ("a", "b"), value), True)
        self.assertIs(is_log(("ab", "b"), ("ab", "ab")), True)

    def test_other_letters(self):
        for value in (("c",), ("a", "b", "c"), ("ab",), ("a", "aa")):
            self.assertIs(plain.unchanged(self, is_log, ("a", "b"), value), False)

    def test_is_log_accepts_every_value(self):
        self.assertEqual(MAX_EVENTS, 200)
        for value in plain.NO_LOGS:
            self.assertIs(plain.unchanged(self, is_log, ("a", "b"), value), False, value)

    def test_is_log_refuses_letters(self):
        for letters in NO_LETTERS:
            plain.refused(self, InvalidLetters, is_log, letters, ("a",))
        plain.refused(self, InvalidLetters, is_log, (), None)


class SortedLogsTest(unittest.TestCase):

    def test_sorted_logs(self):
        given = (("b",), ("a", "a"), (), ("b",), ("a", "b", "a"), ("a",), ("aa",), ("b", "a"), ())
        wanted = ((), ("a",), ("aa",), ("b",), ("a", "a"), ("b", "a"), ("a", "b", "a"))
        self.assertEqual(plain.unchanged(self, sorted_logs, given), wanted)
        self.assertEqual(sorted_logs(()), ())
        self.assertEqual(sorted_logs(((),)), ((),))

    def test_all_logs_of_many_letters(self):
        logs = plain.all_logs("abcdefg", 2)
        self.assertEqual(sorted_logs(tuple(logs[::-1] + logs)), tuple(logs))

    def test_long_logs(self):
        self.assertEqual(sorted_logs((plain.FULL, ("z",) * 199)), (("z",) * 199, plain.FULL))

    def test_refuses(self):
        for call in (sorted_logs, minimal_of):
            for value in plain.OTHERS + plain.NUMBERS:
                plain.refused(self, InvalidLog, call, value)
            for value in plain.NO_LOGS:
                plain.refused(self, InvalidLog, call, (value,))
                plain.refused(self, InvalidLog, call, ((), ("a",), value))


class PlacesTest(unittest.TestCase):

    def test_against_all_ways(self):
        for other in plain.all_logs("ab", 6):
            for log in plain.all_logs("ab", 4):
                ways = plain.ways(log, other)
                first = tuple(min(places) for places in zip(*ways)) if ways else None
                last = tuple(max(places) for places in zip(*ways)) if ways else None
                self.assertIs(occurs(log, other), bool(ways))
                self.assertEqual(first_places(log, other), first)
                self.assertEqual(last_places(log, other), last)

    def test_three_letters(self):
        for other in plain.all_logs("abc", 4):
            for log in plain.all_logs("abc", 3):
                ways = plain.ways(log, other)
                self.assertIs(occurs(log, other), bool(ways))
                self.assertEqual(first_places(log, other), min(ways) if ways else None)
                self.assertEqual(last_places(log, other), max(ways) if ways else None)

    def test_ordinary(self):
        log, other = ("a", "b"), ("b", "a", "c", "a", "b", "b")
        self.assertIs(plain.unchanged(self, occurs, log, other), True)
        self.assertEqual(plain.unchanged(self, first_places, log, other), (1, 4))
        self.assertEqual(plain.unchanged(self, last_places, log, other), (3, 5))

    def test_edges(self):
        self.assertIs(occurs((), ()), True)
        self.assertIs(occurs((), ("a",)), True)
        self.assertIs(occurs(("a",), ()), False)
        self.assertIs(occurs(("a",), ("aa",)), False)
        self.assertEqual(first_places((), ("a",)), ())
        self.assertEqual(last_places((), ()), ())
        self.assertIsNone(first_places(("b", "a"), ("a", "b")))
        self.assertIsNone(last_places(("a", "a"), ("a",)))

    def test_bounds(self):
        for many in (199, 200):
            log = ("a", "b", "c", "e", "f") * (many // 5) + ("a",) * (many - many // 5 * 5)
            self.assertIs(occurs(log, log), True)
            self.assertEqual(first_places(log, log), tuple(range(many)))
            self.assertEqual(last_places(log, log), tuple(range(many)))
        self.assertEqual(first_places(("b",) * 100, plain.FULL), tuple(range(1, 200, 2)))
        self.assertEqual(last_places(("a",) * 3, plain.FULL), (194, 196, 198))
        self.assertIs(occurs(("a",) * 101, plain.FULL), False)

    def test_refuses(self):
        for call in (occurs, first_places, last_places, first_above):
            for value in plain.NO_LOGS:
                plain.refused(self, InvalidLog, call, value, ("a",))
                plain.refused(self, InvalidLog, call, ("a",), value)


class FirstAboveTest(unittest.TestCase):

    def test_against_all_logs(self):
        logs = plain.all_logs("ab", 6)
        some = plain.all_logs("ab", 3)
        above = {log: {other for other in logs if plain.is_below(log, other)} for log in some}
        for log in some:
            for other in some:
                both = above[log] & above[other]
                self.assertEqual(first_above(log, other), plain.in_order(both)[0])

    def test_three_letters(self):
        logs = plain.all_logs("abc", 4)
        some = plain.all_logs("abc", 2)
        for log in some:
            for other in some:
                found = next(one for one in logs if plain.is_below(log, one) and plain.is_below(other, one))
                self.assertEqual(first_above(log, other), found)

    def test_ordinary(self):
        log, other = ("a", "c", "b"), ("b", "c", "a")
        self.assertEqual(plain.unchanged(self, first_above, log, other), ("a", "b", "c", "a", "b"))
        self.assertEqual(first_above(("z",), ("aa", "b", "x", "y")), ("aa", "b", "x", "y", "z"))

    def test_edges(self):
        self.assertEqual(first_above((), ()), ())
        self.assertEqual(first_above((), ("b", "a")), ("b", "a"))
        self.assertEqual(first_above(("b", "a"), ()), ("b", "a"))
        self.assertEqual(first_above(("b", "a"), ("b", "a")), ("b", "a"))
        self.assertEqual(first_above(plain.FULL, plain.FULL), plain.FULL)
        self.assertEqual(first_above(("b",) * 100, plain.FULL), plain.FULL)

    def test_limit(self):
        self.assertEqual(first_above(("b",) * 100, ("a",) * 99), ("a",) * 99 + ("b",) * 100)
        self.assertEqual(first_above(("b",) * 100, ("a",) * 100), ("a",) * 100 + ("b",) * 100)
        error = plain.refused(self, TooMany, first_above, ("a",) * 100, ("b",) * 101)
        self.assertEqual(error.limit, 200)
        plain.refused(self, TooMany, first_above, plain.FULL, ("b", "a") * 100)
        plain.refused(self, TooMany, first_above, plain.FULL, ("c",))


class NeighboursTest(unittest.TestCase):

    def test_growths(self):
        for log in plain.all_logs("abc", 4):
            for letters in (("a",), ("a", "b"), ("b", "c", "d")):
                wanted = {log[:gap] + (letter,) + log[gap:] for gap in range(len(log) + 1) for letter in letters}
                self.assertEqual(list(growths(log, letters)), sorted(wanted))

    def test_shrinkings(self):
        for log in plain.all_logs("abc", 5):
            wanted = {log[:at] + log[at + 1:] for at in range(len(log))}
            self.assertEqual(list(shrinkings(log)), sorted(wanted))

    def test_edges(self):
        self.assertEqual(list(shrinkings(())), [])
        self.assertEqual(list(growths((), ("a", "b"))), [("a",), ("b",)])
        self.assertEqual(list(growths(("x", "y"), ("m",))), [("m", "x", "y"), ("x", "m", "y"), ("x", "y", "m")])
        self.assertEqual(len(list(growths(MANY_NAMES[:199], ("a",)))), 200)
        self.assertEqual(list(growths(("a",) * 199, ("a", "b")))[0], ("a",) * 200)
        self.assertEqual(len(list(shrinkings(plain.FULL))), 200)
        self.assertEqual(list(shrinkings(("a",) * 200)), [("a",) * 199])

    def test_limit(self):
        error = plain.refused(self, TooMany, lambda *given: next(growths(*given)), plain.FULL, ("a",))
        self.assertEqual(error.limit, 200)

    def test_refuses(self):
        def first_growth(log, letters):
            return next(growths(log, letters), None)

        def first_shrinking(log):
            return next(shrinkings(log), None)

        for value in plain.NO_LOGS:
            plain.refused(self, InvalidLog, first_growth, value, ("a",))
            plain.refused(self, InvalidLog, first_growth, value, ())
            plain.refused(self, InvalidLog, first_shrinking, value)
        for value in NO_LETTERS:
            plain.refused(self, InvalidLetters, first_growth, ("a",), value)
            plain.refused(self, InvalidLetters, first_growth, plain.FULL, value)

    def test_errors_wait_for_the_first_value(self):
        for waiting in (growths(None, None), growths(plain.FULL, ("a",)), shrinkings(5)):
            self.assertTrue(hasattr(waiting, "__next__"))
        self.assertEqual(list(islice(growths(("a",), ("a", "b")), 1)), [("a", "a")])


class MinimalOfTest(unittest.TestCase):

    def plain_minimal(self, logs):
        return tuple(plain.in_order({log for log in logs if not any(
            other != log and plain.is_below(other, log) for other in logs)}))

    def test_against_all_pairs(self):
        logs = plain.all_logs("ab", 3)
        for chosen in product(logs, repeat=3):
            self.assertEqual(minimal_of(chosen), self.plain_minimal(chosen))

    def test_many(self):
        logs = plain.all_logs("abc", 4)
        for begin in range(0, len(logs), 5):
            chosen = tuple(logs[begin:begin + 40][::-1] + logs[begin::7])
            self.assertEqual(minimal_of(chosen), self.plain_minimal(chosen))

    def test_ordinary(self):
        given = (("b", "c"), ("c", "b", "c"), ("a", "a"), ("b", "c"), ("b",) * 3, ("c", "a", "b", "a"))
        self.assertEqual(plain.unchanged(self, minimal_of, given), (("a", "a"), ("b", "c"), ("b", "b", "b")))

    def test_edges(self):
        self.assertEqual(minimal_of(()), ())
        self.assertEqual(minimal_of((("a",), (), ("b",))), ((),))
        self.assertEqual(minimal_of((("a",), ("a",))), (("a",),))
        self.assertEqual(minimal_of((plain.FULL, ("b",) * 100, ("b",) * 199)), (("b",) * 100,))


if __name__ == "__main__":
    unittest.main()
