"""Machines: least ones, turned ones, products, comparisons."""

import random
import unittest
from itertools import product

import plain
from plain import AB, EVEN, PLAIN, label
from seldomflip.errors import InvalidLog, InvalidMachine, InvalidNumber, InvalidOperation, TooMany
from seldomflip.sets.logsets import Logs
from seldomflip.sets.machines import (
    alike_states, comparison, contains, first_logs, is_comparison, is_least, is_machine, least, merged, parting_log,
    parting_states, state_behind, turned)

SMALL = plain.some_machines(1, 150, "ab", 4) + plain.some_machines(2, 50, "abc", 3) + plain.some_machines(3, 30, "a", 5)
ONE_STATE = (("a",), ((0,),), (True,))
LONGEST = plain.tail(200, 199, (199,))
NO_STATES = plain.OTHERS + plain.SETS + (-1, 2, 200, 10 ** 59, -(10 ** 59), (), (0,), "0", [0])
# just the log of 100 events
NEXT = (("a",), tuple((min(state + 1, 101),) for state in range(102)), tuple(state == 100 for state in range(102)))


def back_to(state, many=200):
    return plain.tail(many, state, (100,))


def unlike_states(machine, most):
    """For each two states the first log of at most so many events that parts them, or None."""
    letters, rows, _ = machine
    found = {}
    for one, other in product(range(len(rows)), repeat=2):
        logs = [log for log in plain.all_logs(letters, most) if label(machine, log, one) != label(machine, log, other)]
        found[one, other] = plain.in_order(logs)[0] if logs else None
    return found


class IsMachineTest(unittest.TestCase):

    def test_machines(self):
        for machine in SMALL + [EVEN, PLAIN, ONE_STATE, LONGEST, plain.tail(200, 0, ())]:
            self.assertIs(plain.unchanged(self, is_machine, machine), True)

    def test_letters(self):
        for letters in (("a",), ("abcdefgh", "b"), ("a", "b", "c", "d")):
            self.assertIs(is_machine((letters, ((0,) * len(letters),), (False,))), True)

    def test_states(self):
        for many, wanted in ((1, True), (200, True), (201, False)):
            self.assertIs(is_machine(plain.tail(many, many - 1, (0,))), wanted)

    def test_accepts_every_value(self):
        for value in plain.NO_MACHINES:
            self.assertIs(plain.unchanged(self, is_machine, value), False, value)


class LeastTest(unittest.TestCase):

    def test_ordinary(self):
        self.assertEqual(plain.unchanged(self, least, PLAIN), (AB, ((0, 1), (1, 1)), (True, False)))
        self.assertEqual(plain.unchanged(self, least, EVEN), EVEN)

    def test_against_all_short_logs(self):
        for machine in SMALL:
            small = least(machine)
            self.assertEqual(small[0], machine[0])
            for log in plain.all_logs(machine[0], 5):
                self.assertIs(label(small, log), label(machine, log))
            self.check_least(small)
            self.assertIs(is_least(small), True)
            self.assertIs(is_least(machine), small == machine)
            self.assertEqual(least(small), small)

    def check_least(self, machine):
        unlike = unlike_states(machine, 4)
        states = range(len(machine[1]))
        for one, other in product(states, repeat=2):
            self.assertEqual(unlike[one, other] is None, one == other)
        firsts = [None] * len(machine[1])
        for log in plain.all_logs(machine[0], 4)[::-1]:
            firsts[state_behind(machine, log)] = log
        self.assertEqual(firsts, plain.in_order(firsts))

    def test_other_numbers(self):
        turned_round = (AB, ((0, 1), (1, 0)), (True, False))
        self.assertEqual(least(turned_round), (AB, ((0, 1), (1, 0)), (True, False)))
        self.assertIs(is_least((AB, ((2, 1), (1, 1), (0, 0)), (True, False, True))), False)
        self.assertIs(is_least((AB, ((1, 2), (1, 1), (0, 0)), (True, True, False))), True)

    def test_states_that_no_log_reaches(self):
        machine = (AB, ((0, 0), (0, 1), (2, 1)), (True, False, True))
        self.assertEqual(least(machine), (AB, ((0, 0),), (True,)))
        self.assertIs(is_least(machine), False)

    def test_edges(self):
        for good in (True, False):
            self.assertEqual(least((AB, ((1, 2), (2, 0), (0, 1)), (good,) * 3)), (AB, ((0, 0),), (good,)))
        self.assertIs(is_least(ONE_STATE), True)
        self.assertIs(is_least(LONGEST), True)
        self.assertEqual(least(plain.tail(200, 0, (0, 100))), plain.tail(100, 0, (0,)))
        self.assertEqual(least(plain.tail(200, 0, ())), (("a",), ((0,),), (False,)))

    def test_refuses(self):
        for value in plain.NO_MACHINES:
            for call in (least, is_least, turned, first_logs, alike_states):
                plain.refused(self, InvalidMachine, call, value)


class TurnedTest(unittest.TestCase):

    def test_against_all_short_logs(self):
        for machine in SMALL:
            found = turned(machine)
            self.assertIs(is_least(found), True)
            for log in plain.all_logs(machine[0], 5):
                self.assertIs(label(found, log), label(machine, log[::-1]))

    def test_ordinary(self):
        ends = (AB, ((0, 1), (0, 1)), (False, True))
        self.assertEqual(plain.unchanged(self, turned, ends), (AB, ((1, 2), (1, 1), (2, 2)), (False, False, True)))

    def test_limit(self):
        letters = ("a", "b", "c")
        sizes = []
        for many in range(190, 197):
            logs = [log + ("c",) * many for log in (("a",), ("a", "a"), ("a", "b"))]
            backwards = [log[::-1] for log in logs]
            machine = Logs.listing_of(letters, tuple(logs)).machine
            try:
                wanted = Logs.listing_of(letters, tuple(backwards)).machine
            except TooMany:
                self.assertEqual(plain.refused(self, TooMany, turned, machine).limit, 200)
                sizes.append(201)
            else:
                self.assertEqual(turned(machine), wanted)
                sizes.append(len(wanted[1]))
        self.assertIn([199, 200, 201], [sizes[at:at + 3] for at in range(len(sizes))])

    def test_far_too_many_states(self):
        # the event with 60 events ahead of it is a: turned, all of the last 61 events must be known
        rows = tuple((state + 1,) * 2 for state in range(60)) + ((61, 62), (61, 61), (62, 62))
        machine = (AB, rows, tuple(state == 61 for state in range(63)))
        self.assertEqual(plain.refused(self, TooMany, turned, machine).limit, 200)


class StatesTest(unittest.TestCase):

    def test_state_behind(self):
        for machine in SMALL[:60]:
            letters, rows, _ = machine
            for begin in range(len(rows)):
                for log in plain.all_logs(letters, 3):
                    state = begin
                    for event in log:
                        state = rows[state][letters.index(event)]
                    self.assertEqual(state_behind(machine, log, begin=begin), state)
                    if begin == 0:
                        self.assertEqual(state_behind(machine, log), state)
                        self.assertIs(contains(machine, log), machine[2][state])

    def test_long_logs(self):
        for many in (199, 200):
            self.assertEqual(plain.unchanged(self, state_behind, LONGEST, ("a",) * many), min(many, 199))
            self.assertIs(plain.unchanged(self, contains, LONGEST, ("a",) * many), True)
        self.assertIs(contains(LONGEST, ("a",) * 198), False)
        self.assertEqual(state_behind(LONGEST, ("a",) * 100, begin=99), 199)
        self.assertEqual(state_behind(LONGEST, (), begin=199), 199)

    def test_first_logs(self):
        for machine in SMALL:
            found = [None] * len(machine[1])
            for log in plain.all_logs(machine[0], 4)[::-1]:
                found[state_behind(machine, log)] = log
            self.assertEqual(first_logs(machine), tuple(found))
        self.assertEqual(plain.unchanged(self, first_logs, LONGEST), tuple(("a",) * many for many in range(200)))
        self.assertEqual(first_logs((AB, ((0, 0), (1, 1)), (True, True))), ((), None))

    def test_alike_and_parting_states(self):
        for machine in SMALL:
            unlike = unlike_states(machine, 4)
            states = range(len(machine[1]))
            for one, other in product(states, repeat=2):
                self.assertEqual(parting_states(machine, one, other), unlike[one, other])
            groups = {tuple(other for other in states if unlike[one, other] is None) for one in states}
            self.assertEqual(alike_states(machine), tuple(sorted(groups)))

    def test_parting_states_far_away(self):
        self.assertEqual(plain.unchanged(self, parting_states, LONGEST, 0, 1), ("a",) * 198)
        self.assertEqual(parting_states(LONGEST, 198, 199), ())
        self.assertEqual(parting_states(LONGEST, 7, 7), None)
        self.assertEqual(len(alike_states(LONGEST)), 200)
        self.assertEqual(plain.unchanged(self, alike_states, plain.tail(200, 0, ())), (tuple(range(200)),))

    def test_refuses(self):
        for value in plain.NO_MACHINES:
            plain.refused(self, InvalidMachine, state_behind, value, None, begin=-1)
            plain.refused(self, InvalidMachine, contains, value, None)
            plain.refused(self, InvalidMachine, parting_states, value, -1, -1)
        for value in plain.WRONG_LOGS:
            plain.refused(self, InvalidLog, state_behind, EVEN, value, begin=-1)
            plain.refused(self, InvalidLog, contains, EVEN, value)
        for value in NO_STATES:
            self.assertEqual(plain.refused(self, InvalidNumber, state_behind, EVEN, (), begin=value).value, value)
            self.assertEqual(plain.refused(self, InvalidNumber, parting_states, EVEN, value, -1).value, value)
            self.assertEqual(plain.refused(self, InvalidNumber, parting_states, EVEN, 1, value).value, value)


class MergedTest(unittest.TestCase):

    def test_against_all_short_logs(self):
        ways = list(product((True, False), repeat=4))
        for machine, other in zip(SMALL[:60], SMALL[60:120]):
            for both, first, second, neither in ways:
                found = merged(machine, other, both=both, first=first, second=second, neither=neither)
                self.assertIs(is_least(found), True)
                worth = {(True, True): both, (True, False): first, (False, True): second, (False, False): neither}
                for log in plain.all_logs(AB, 4):
                    self.assertIs(label(found, log), worth[label(machine, log), label(other, log)])

    def test_ordinary(self):
        wanted = (AB, ((1, 2), (0, 2), (2, 2)), (True, False, False))
        self.assertEqual(plain.unchanged(self, merged, EVEN, PLAIN), wanted)
        self.assertEqual(merged(EVEN, PLAIN, both=False), (AB, ((0, 0),), (False,)))

    def test_limit(self):
        for many, other, wanted in ((10, 20, 200), (8, 25, 200), (3, 67, 201), (200, 199, 39800)):
            one = plain.round_of_states(AB, "a", many, (0,))
            two = plain.round_of_states(AB, "b", other, (0,))
            if wanted > 200:
                self.assertEqual(plain.refused(self, TooMany, merged, one, two).limit, 200)
            else:
                self.assertEqual(len(merged(one, two)[1]), wanted)

    def test_what_is_met_on_the_way_does_not_count(self):
        one = plain.round_of_states(AB, "a", 200, (0,))
        two = plain.round_of_states(AB, "b", 199, (0,))
        self.assertEqual(merged(one, two, first=True), one)
        self.assertEqual(merged(one, two, second=True), two)
        everything = merged(one, two, first=True, second=True, neither=True)
        self.assertEqual(everything, (AB, ((0, 0),), (True,)))
        wide = (AB, tuple((min(state + 1, 199), state) for state in range(200)), tuple(state == 199 for state in range(200)))
        self.assertEqual(merged(wide, two, first=True), wide)

    def test_refuses(self):
        for value in plain.NO_MACHINES:
            plain.refused(self, InvalidMachine, merged, value, value, both=None)
            plain.refused(self, InvalidMachine, merged, EVEN, value, both=None)
        for name in ("both", "first", "second", "neither"):
            for value in plain.NUMBERS + plain.SETS + (None, "True", "", (), (True,), [], {}):
                plain.refused(self, InvalidOperation, merged, EVEN, PLAIN, **{name: value})
                plain.refused(self, InvalidOperation, merged, EVEN, ONE_STATE, **{name: value})
        plain.refused(self, InvalidOperation, merged, EVEN, ONE_STATE)
        plain.refused(self, InvalidOperation, merged, EVEN, (("a", "c"),) + EVEN[1:])


def plain_pairs(machine, other):
    """The pairs of states to which short logs lead."""
    return tuple(sorted({(state_behind(machine, log), state_behind(other, log)) for log in plain.all_logs(machine[0], 5)}))


def plain_same(machine, other, pairs):
    """Whether the pairs show, by the definition, that the machines have the same set."""
    if (0, 0) not in pairs or list(pairs) != sorted(set(pairs)):
        return False
    for one, two in pairs:
        if machine[2][one] != other[2][two]:
            return False
        for at in range(len(machine[0])):
            if (machine[1][one][at], other[1][two][at]) not in pairs:
                return False
    return True


class ComparisonTest(unittest.TestCase):

    def test_against_all_short_logs(self):
        for machine in SMALL[:150:4]:
            for other in SMALL[:150:3]:
                logs = [log for log in plain.all_logs(AB, 6) if label(machine, log) != label(other, log)]
                first = plain.in_order(logs)[0] if logs else None
                self.assertEqual(parting_log(machine, other), first)
                found = comparison(machine, other)
                if logs:
                    self.assertEqual((found[0], len(found)), ("parted", 2))
                    self.assertIn(found[1], logs)
                else:
                    self.assertEqual((found[0], len(found)), ("same", 2))
                    self.assertIs(plain_same(machine, other, found[1]), True)
                self.assertIs(is_comparison(machine, other, found), True)

    def test_all_short_logs_as_comparisons(self):
        for machine, other in zip(SMALL[:40], SMALL[40:80]):
            for log in plain.all_logs(AB, 3):
                wanted = label(machine, log) != label(other, log)
                self.assertIs(is_comparison(machine, other, ("parted", log)), wanted)

    def test_all_pairs_as_comparisons(self):
        machines = [machine for machine in SMALL[:150] if len(machine[1]) <= 2][:12]
        for machine, other in product(machines, repeat=2):
            states = list(product(range(len(machine[1])), range(len(other[1]))))
            for kept in product((True, False), repeat=len(states)):
                pairs = tuple(pair for pair, keep in zip(states, kept) if keep)
                self.assertIs(is_comparison(machine, other, ("same", pairs)), plain_same(machine, other, pairs))

    def test_more_pairs_than_are_needed(self):
        small = least(PLAIN)
        pairs = ((0, 0), (1, 0), (2, 1))
        self.assertIs(plain.unchanged(self, is_comparison, PLAIN, small, ("same", pairs)), True)
        self.assertIs(is_comparison(PLAIN, PLAIN, ("same", ((0, 0), (1, 1), (2, 2)))), True)
        whole = ((0, 0), (0, 1), (1, 0), (1, 1), (2, 2))
        self.assertIs(is_comparison(PLAIN, PLAIN, ("same", whole)), True)
        for wrong in (whole[::-1], whole[1:], whole[:-1], whole + ((2, 2),), whole + ((2, 3),), whole + ((3, 2),),
                      whole[:1] + whole, list(whole), ((0, 0), (1, 2), (2, 1), (2, 2)), ((0, 0), (2, 2)), (),
                      ((False, 0), (1, 1), (2, 2)), ((0, 0), (True, 1), (2, 2)), ([0, 0], (1, 1), (2, 2)),
                      ((0, 0, 0), (1, 1), (2, 2)), ((0, 0), (1, 1), (2, 2), (2,)), ((0, 0), (1, 1), (2, 2), None),
                      ((-1, 0), (0, 0), (1, 1), (2, 2)), ((0, 0), (2, -1), (2, 2)), ((0, 0), (1, -3), (1, 1), (2, 2)),
                      ((0, 0), (1, 1), ("a", "b")), ((0, 0), (1, 1), (2, (2,)))):
            self.assertIs(is_comparison(PLAIN, PLAIN, ("same", wrong)), False, wrong)

    def test_late_logs(self):
        # from 199 to 100 or 99: the second time the state 100 is met behind 200 or 201 events
        self.assertEqual(parting_log(NEXT, back_to(100)), ("a",) * 200)
        self.assertEqual(comparison(NEXT, back_to(100)), ("parted", ("a",) * 200))
        for machine in (back_to(99), back_to(1), plain.tail(199, 97, (100,))):
            for call in (parting_log, comparison):
                self.assertEqual(plain.refused(self, TooMany, call, NEXT, machine).limit, 200)
            self.assertIs(is_comparison(NEXT, machine, ("parted", ("a",) * 201)), False)
            self.assertIs(is_comparison(NEXT, machine, ("parted", ("a",) * 200)), False)
            self.assertIs(is_comparison(NEXT, machine, ("same", ((0, 0),))), False)
        self.assertIs(is_comparison(NEXT, back_to(100), ("parted", ("a",) * 200)), True)

    def test_many_pairs(self):
        one = plain.round_of_states(AB, "a", 200, tuple(range(200)))
        two = plain.round_of_states(AB, "b", 199, tuple(range(199)))
        found = comparison(one, two)
        self.assertEqual((found[0], len(found[1])), ("same", 200 * 199))
        self.assertIs(is_comparison(one, two, found), True)
        self.assertIs(is_comparison(one, two, ("same", found[1][:-1])), False)

    def test_accepts_every_value(self):
        for value in plain.NO_LOGS + plain.SETS + plain.NO_MACHINES[:20]:
            self.assertIs(plain.unchanged(self, is_comparison, EVEN, EVEN, value), False, value)
            for paper in (("same", value), ("same", (value,)), ("same", ((0, 0), value)), ("same", ((0, value),)),
                          (value, ((0, 0), (1, 1))), ("parted", value), ("same", ((0, 0), (1, 1)), value)):
                self.assertIs(is_comparison(EVEN, EVEN, paper), False, paper)
            self.assertIs(is_comparison(EVEN, least(PLAIN), ("parted", value)), False, value)
            self.assertIs(is_comparison(EVEN, least(PLAIN), (value, ("a",))), False, value)
        self.assertIs(is_comparison(EVEN, EVEN, ("same", ((0, 0), (1, 1)))), True)
        self.assertIs(is_comparison(EVEN, PLAIN, ("parted", ("b",))), True)
        self.assertIs(is_comparison(EVEN, PLAIN, ["parted", ("b",)]), False)
        self.assertIs(is_comparison(EVEN, PLAIN, ("parted", ("b",), ("b",))), False)
        self.assertIs(is_comparison(EVEN, PLAIN, ("parted", ("b", "c"))), False)

    def test_refuses(self):
        for call, rest in ((parting_log, ()), (comparison, ()), (is_comparison, (None,))):
            for value in plain.NO_MACHINES:
                plain.refused(self, InvalidMachine, call, value, value, *rest)
                plain.refused(self, InvalidMachine, call, EVEN, value, *rest)
            plain.refused(self, InvalidOperation, call, EVEN, ONE_STATE, *rest)
            plain.refused(self, InvalidOperation, call, ONE_STATE, EVEN, *rest)


class BigMachinesTest(unittest.TestCase):

    def test_many_states(self):
        source = random.Random(4)
        for many in (100, 200):
            rows = tuple(tuple(source.randrange(many) for _ in AB) for _ in range(many))
            machine = (AB, rows, tuple(source.random() < 0.1 for _ in range(many)))
            small = least(machine)
            self.assertIs(is_least(small), True)
            self.assertIs(parting_log(machine, small), None)
            for _ in range(200):
                log = tuple(source.choice(AB) for _ in range(source.randint(0, 200)))
                self.assertIs(contains(machine, log), contains(small, log))


if __name__ == "__main__":
    unittest.main()
