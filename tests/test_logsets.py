"""Sets of logs: the class Logs."""

import random
import unittest

import plain
from plain import AB, EVEN, PLAIN
from seldomflip.errors import InvalidLetters, InvalidLog, InvalidMachine, InvalidNumber, InvalidOperation, TooMany
from seldomflip.sets.logsets import Logs
from seldomflip.sets.machines import contains, least

SMALL = plain.some_machines(11, 120, "ab", 4) + plain.some_machines(12, 40, "abc", 3)
NO_LENGTHS = plain.NO_NUMBERS + plain.SETS + (-1, 201, 10 ** 59, -(10 ** 59))
NO_LEAST = plain.NO_NUMBERS + plain.SETS + (-1, -(10 ** 59))
NO_SETS = plain.OTHERS + plain.NUMBERS + ((), ("a",), EVEN, plain.deep((), 9))
ABC = ("a", "b", "c")


def finite(*words):
    return Logs.listing_of(AB, tuple(tuple(word) for word in words))


class MadeTest(unittest.TestCase):

    def test_least_machine(self):
        for machine in SMALL:
            logs = plain.unchanged(self, Logs, machine)
            self.assertEqual(logs.machine, least(machine))
            self.assertEqual(logs.letters, machine[0])
            self.assertEqual(len(logs), len(least(machine)[1]))

    def test_listing(self):
        source = random.Random(13)
        logs = plain.all_logs("ab", 4)
        for many in (0, 1, 2, 5, 20, 31):
            some = tuple(source.choice(logs) for _ in range(many))
            made = plain.unchanged(self, Logs.listing, AB, *some)
            self.assertEqual(list(made.listed(longest=5)), plain.in_order(set(some)))
            self.assertEqual(plain.unchanged(self, Logs.listing_of, AB, some), made)
            self.assertEqual(least(made.machine), made.machine)
            self.assertEqual(made.count(), len(set(some)))

    def test_listing_edges(self):
        self.assertEqual(Logs.listing(AB), Logs.nothing(AB))
        self.assertEqual(Logs.listing(AB, ()).machine, (AB, ((1, 1), (1, 1)), (True, False)))
        self.assertEqual(Logs.listing(AB, *plain.all_logs("ab", 3)), Logs.sized(AB, most=3))
        self.assertEqual(len(Logs.listing(AB, plain.FULL[:198])), 200)
        self.assertEqual(len(Logs.listing(AB, plain.FULL[:198], plain.FULL[:7], plain.FULL[:7])), 200)
        for logs in ((plain.FULL[:199],), (plain.FULL,), (("a",) * 99, ("b",) * 101)):
            self.assertEqual(plain.refused(self, TooMany, Logs.listing, AB, *logs).limit, 200)
            self.assertEqual(plain.refused(self, TooMany, Logs.listing_of, AB, logs).limit, 200)
        self.assertEqual(len(Logs.listing(AB, ("a",) * 99, ("b",) * 100)), 200)
        for letters, last in ((AB, "a"), (ABC, "b")):
            logs = tuple(log + (last,) * 180 for log in plain.all_logs(letters, 6) if len(log) == 6)
            self.assertEqual(len(Logs.listing_of(letters, logs)), 188)

    def test_everything_nothing_sized(self):
        for letters in (("a",), AB, ABC, ("a", "b", "c", "dd")):
            width = len(letters)
            self.assertEqual(Logs.everything(letters).machine, (letters, ((0,) * width,), (True,)))
            self.assertEqual(Logs.nothing(letters).machine, (letters, ((0,) * width,), (False,)))
            for least_length in range(5):
                for most in (None, 0, 1, 2, 3, 4):
                    made = Logs.sized(letters, least=least_length, most=most)
                    self.assertEqual(least(made.machine), made.machine)
                    for length in range(6):
                        inside = least_length <= length and (most is None or length <= most)
                        self.assertEqual(made.count_of(length), width ** length if inside else 0)
        self.assertEqual(plain.unchanged(self, Logs.sized, AB), Logs.everything(AB))

    def test_sized_edges(self):
        self.assertEqual(len(Logs.sized(AB, most=198)), 200)
        self.assertEqual(len(Logs.sized(AB, least=199)), 200)
        self.assertEqual(len(Logs.sized(AB, least=198, most=198)), 200)
        for named in ({"most": 199}, {"least": 200}, {"least": 10 ** 59}, {"most": 10 ** 59}, {"least": 199, "most": 199},
                      {"least": 5, "most": 300}):
            self.assertEqual(plain.refused(self, TooMany, Logs.sized, AB, **named).limit, 200)
        for named in ({"least": 1, "most": 0}, {"least": 10 ** 59, "most": 10 ** 58}, {"least": 201, "most": 200}):
            self.assertEqual(Logs.sized(AB, **named), Logs.nothing(AB))

    def test_refuses(self):
        for value in plain.NO_MACHINES:
            plain.refused(self, InvalidMachine, Logs, value)
        for value in plain.NO_LETTERS:
            plain.refused(self, InvalidLetters, Logs.listing, value, None)
            plain.refused(self, InvalidLetters, Logs.listing_of, value, None)
            plain.refused(self, InvalidLetters, Logs.everything, value)
            plain.refused(self, InvalidLetters, Logs.nothing, value)
            plain.refused(self, InvalidLetters, Logs.sized, value, least=-1, most=-1)
        for value in plain.WRONG_LOGS:
            plain.refused(self, InvalidLog, Logs.listing, AB, value)
            plain.refused(self, InvalidLog, Logs.listing, AB, ("a",), plain.FULL, value, ("b",))
            plain.refused(self, InvalidLog, Logs.listing_of, AB, (("a",), plain.FULL, value))
        for value in plain.OTHERS + plain.NUMBERS + plain.SETS + (("a",), [("a",)], plain.deep((), 9)):
            plain.refused(self, InvalidLog, Logs.listing_of, AB, value)
        for value in NO_LEAST:
            self.assertEqual(plain.refused(self, InvalidNumber, Logs.sized, AB, least=value, most=-1).value, value)
            if value is not None:
                self.assertEqual(plain.refused(self, InvalidNumber, Logs.sized, AB, least=9, most=value).value, value)


class OperatorsTest(unittest.TestCase):

    def test_against_all_short_logs(self):
        logs = plain.all_logs("ab", 5)
        for one, other in zip(SMALL[:60], SMALL[60:120]):
            first, second = Logs(one), Logs(other)
            signs = ((first | second, lambda a, b: a or b), (first & second, lambda a, b: a and b),
                     (first - second, lambda a, b: a and not b), (first ^ second, lambda a, b: a != b),
                     (~first, lambda a, b: not a))
            for found, wanted in signs:
                self.assertIsInstance(found, Logs)
                self.assertEqual(least(found.machine), found.machine)
                for log in logs:
                    self.assertIs(log in found, wanted(plain.label(one, log), plain.label(other, log)))
            within = all(plain.label(other, log) for log in plain.all_logs("ab", 6) if plain.label(one, log))
            self.assertIs(first.is_within(second), within)
            self.assertIs(first.is_within(first | second), True)
            self.assertIs((first & second).is_within(second), True)
            self.assertEqual((first, second), (Logs(one), Logs(other)))

    def test_laws(self):
        for one, other in zip(SMALL[:40], SMALL[40:80]):
            first, second = Logs(one), Logs(other)
            self.assertEqual(first ^ second, (first | second) - (first & second))
            self.assertEqual(~~first, first)
            self.assertEqual(~(first | second), ~first & ~second)
            self.assertEqual(first.is_within(second), first & second == first)

    def test_limit(self):
        for many, other, wanted in ((10, 20, 200), (8, 25, 200), (3, 67, 201), (200, 199, 39800)):
            one = Logs(plain.round_of_states(AB, "a", many, (0,)))
            two = Logs(plain.round_of_states(AB, "b", other, (0,)))
            for call in (Logs.__or__, Logs.__and__, Logs.__sub__, Logs.__xor__):
                if wanted > 200:
                    self.assertEqual(plain.refused(self, TooMany, call, one, two).limit, 200)
                else:
                    self.assertEqual(len(call(one, two)), wanted)
            # what is met on the way does not count
            self.assertEqual(one | ~one, Logs.everything(AB))
            self.assertIs(one.is_within(two), False)
            self.assertEqual(len(~one), many)

    def test_refuses(self):
        logs = Logs(EVEN)
        calls = (lambda one, two: one | two, lambda one, two: one & two, lambda one, two: one - two,
                 lambda one, two: one ^ two, lambda one, two: one.is_within(two))
        for value in NO_SETS + (Logs.everything(("a",)), Logs.everything(("a", "c")), Logs.everything(ABC)):
            for call in calls:
                plain.refused(self, InvalidOperation, call, logs, value)

    def test_contains(self):
        for machine in SMALL[:60]:
            logs = Logs(machine)
            for log in plain.all_logs("ab", 4):
                self.assertIs(log in logs, contains(machine, log))
        everything = Logs.everything(AB)
        self.assertIs(plain.FULL in everything, True)
        self.assertIs(plain.FULL + ("a",) in everything, False)
        for value in plain.WRONG_LOGS:
            self.assertIs(plain.unchanged(self, everything.__contains__, value), False, value)

    def test_truth_and_length(self):
        self.assertIs(bool(Logs.nothing(AB)), False)
        self.assertIs(bool(Logs.listing(AB, ())), True)
        for machine in SMALL:
            self.assertIs(bool(Logs(machine)), bool(plain.members(machine, 4)))
        self.assertEqual([len(Logs.nothing(AB)), len(Logs.listing(AB, ())), len(Logs(PLAIN))], [1, 2, 2])

    def test_equality(self):
        self.assertEqual(Logs(PLAIN), Logs(least(PLAIN)))
        self.assertNotEqual(Logs(PLAIN), Logs(EVEN))
        self.assertNotEqual(Logs.nothing(AB), Logs.nothing(("a",)))
        self.assertNotEqual(Logs.nothing(AB), Logs.nothing(("a", "c")))
        for value in NO_SETS:
            self.assertIs(Logs(EVEN) == value, False)
            self.assertIs(Logs(EVEN) != value, True)

    def test_text(self):
        self.assertEqual(str(Logs(EVEN)), "logs over a, b: 2 states")
        self.assertEqual(str(Logs.nothing(("abc",))), "logs over abc: 1 states")
        self.assertEqual(str(Logs.sized(("a", "b", "c", "dd"), most=198)), "logs over a, b, c, dd: 200 states")

    def test_call(self):
        for machine in SMALL:
            logs = Logs(machine)
            for log in plain.all_logs(machine[0], 2):
                found = plain.unchanged(self, logs, log)
                self.assertEqual(least(found.machine), found.machine)
                for rest in plain.all_logs(machine[0], 3):
                    self.assertIs(rest in found, plain.label(machine, log + rest))
        whole = Logs.listing(AB, plain.FULL[:198])
        self.assertEqual(whole(plain.FULL[:197]), Logs.listing(AB, ("b",)))
        self.assertEqual(whole(plain.FULL), Logs.nothing(AB))
        for value in plain.WRONG_LOGS:
            plain.refused(self, InvalidLog, whole, value)


class NumbersTest(unittest.TestCase):

    def test_first_and_listed(self):
        for machine in SMALL:
            logs = Logs(machine)
            known = plain.members(machine, 5)
            self.assertEqual(plain.unchanged(self, logs.first), known[0] if known else None)
            for longest in range(6):
                found = list(logs.listed(longest=longest))
                self.assertEqual(found, [log for log in known if len(log) <= longest])
            self.assertEqual(list(logs.listed()), [log for log in known if len(log) <= 4])

    def test_listed_edges(self):
        self.assertEqual(list(Logs.nothing(AB).listed(longest=200)), [])
        self.assertEqual(list(Logs(EVEN).listed(longest=0)), [()])
        self.assertEqual(list(Logs.listing(AB, plain.FULL[:198]).listed(longest=200)), [plain.FULL[:198]])
        self.assertEqual(list(Logs.everything(("a",)).listed(longest=200)), [("a",) * many for many in range(201)])
        self.assertEqual(Logs.listing(AB, plain.FULL[:198]).first(), plain.FULL[:198])
        for value in NO_LENGTHS:
            started = Logs.everything(AB).listed(longest=value)
            with self.assertRaises(InvalidNumber) as caught:
                next(started)
            self.assertEqual(caught.exception.value, value)

    def test_counts(self):
        for machine in SMALL:
            logs = Logs(machine)
            size = len(logs)
            longer = [logs.count_of(length) for length in range(size, 2 * size)]
            for length in range(6):
                known = [log for log in plain.members(machine, length) if len(log) == length]
                self.assertEqual(plain.unchanged(self, logs.count_of, length), len(known))
            if any(longer):
                self.assertIs(plain.unchanged(self, logs.count), None)
            else:
                self.assertEqual(logs.count(), sum(logs.count_of(length) for length in range(size)))

    def test_great_counts(self):
        everything = Logs.everything(("a", "b", "c", "d"))
        self.assertEqual([everything.count_of(length) for length in (0, 1, 199, 200)], [1, 4, 4 ** 199, 4 ** 200])
        self.assertEqual(Logs.sized(AB, most=198).count(), 2 ** 199 - 1)
        self.assertEqual([Logs.nothing(AB).count(), Logs.listing(AB, ()).count()], [0, 1])
        self.assertIs(Logs.everything(("a",)).count(), None)
        self.assertIs(Logs(plain.tail(200, 199, (199,))).count(), None)
        self.assertEqual(Logs(plain.tail(200, 199, (198,))).count(), 1)
        for value in NO_LENGTHS:
            self.assertEqual(plain.refused(self, InvalidNumber, everything.count_of, value).value, value)

    def test_indexes(self):
        for machine in SMALL:
            logs = Logs(machine)
            known = plain.members(machine, 5)
            for index, log in enumerate(known[:40]):
                self.assertEqual(plain.unchanged(self, logs.log_at, index), log)
            for log in plain.all_logs(machine[0], 3):
                before = [one for one in known if plain.in_order([one, log])[0] == one != log]
                self.assertEqual(plain.unchanged(self, logs.index_of, log), len(before))
            many = logs.count()
            if many is not None:
                self.assertEqual(plain.refused(self, InvalidNumber, logs.log_at, many).value, many)
                self.assertEqual(plain.refused(self, InvalidNumber, logs.log_at, 10 ** 59).value, 10 ** 59)

    def test_great_indexes(self):
        everything = Logs.everything(AB)
        first = 2 ** 200 - 1
        self.assertEqual(everything.log_at(first), ("a",) * 200)
        self.assertEqual(everything.log_at(first - 1), ("b",) * 199)
        self.assertEqual(everything.log_at(2 * first), ("b",) * 200)
        self.assertEqual(everything.index_of(("b",) * 200), 2 * first)
        self.assertEqual(everything.index_of(plain.FULL), first + sum(4 ** at for at in range(100)))
        self.assertEqual(everything.log_at(everything.index_of(plain.FULL)), plain.FULL)
        index = 10 ** 59
        self.assertEqual(everything.index_of(everything.log_at(index)), index)
        self.assertEqual(plain.refused(self, TooMany, everything.log_at, 2 * first + 1).limit, 200)

    def test_indexes_that_are_too_great(self):
        line = Logs.everything(("a",))
        self.assertEqual(line.log_at(200), ("a",) * 200)
        for index in (201, 10 ** 59):
            self.assertEqual(plain.refused(self, TooMany, line.log_at, index).limit, 200)
        late = Logs.sized(("a",), least=199)
        self.assertEqual([len(late.log_at(index)) for index in (0, 1)], [199, 200])
        self.assertEqual(plain.refused(self, TooMany, late.log_at, 2).limit, 200)
        some = finite("", "ab", "b")
        self.assertEqual([some.log_at(index) for index in range(3)], [(), ("b",), ("a", "b")])
        for index in (3, 201, 10 ** 59):
            self.assertEqual(plain.refused(self, InvalidNumber, some.log_at, index).value, index)
        self.assertEqual(plain.refused(self, InvalidNumber, Logs.nothing(AB).log_at, 0).value, 0)

    def test_refuses(self):
        logs = Logs(EVEN)
        for value in NO_LEAST:
            self.assertEqual(plain.refused(self, InvalidNumber, logs.log_at, value).value, value)
        for value in plain.WRONG_LOGS:
            plain.refused(self, InvalidLog, logs.index_of, value)

    def test_logs_that_need_not_be_in_the_set(self):
        logs = finite("b", "bb", "aaa")
        for word, wanted in (("", 0), ("a", 0), ("b", 0), ("ab", 1), ("bb", 1), ("aaa", 2), ("bbb", 3), ("a" * 200, 3)):
            self.assertEqual(logs.index_of(tuple(word)), wanted)


class NothingChangesTest(unittest.TestCase):

    def test_machines_stay_as_they_are(self):
        logs = Logs(EVEN)
        before = logs.machine
        list(logs.listed(longest=6))
        logs | Logs(PLAIN)
        logs(("a",))
        logs.log_at(1000)
        plain.refused(self, InvalidOperation, lambda: logs | None)
        plain.refused(self, InvalidLog, logs, ("c",))
        self.assertEqual(logs.machine, before)
        self.assertEqual(logs, Logs(EVEN))


if __name__ == "__main__":
    unittest.main()
