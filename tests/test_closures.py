"""What is above and below sets of logs, extremes, closed sets and their papers."""

import random
import unittest
from itertools import product
from unittest import mock

import plain
from plain import AB, EVEN, PLAIN, label
from seldomflip.base.logs import minimal_of
from seldomflip.errors import InvalidLetters, InvalidLog, InvalidOperation, TooMany
from seldomflip.sets import extremes, guessing, spreads
from seldomflip.sets.chains import avoiding
from seldomflip.sets.closures import (
    above, above_of, below, below_of, closure_paper, first_over, first_under, inside_down, inside_up, is_closed_down,
    is_closed_up, is_closure_paper, maximal, minimal)
from seldomflip.sets.extremes import Maximal, Minimal
from seldomflip.sets.logsets import Logs
from seldomflip.sets.machines import least
from seldomflip.sets.settling import settled
from seldomflip.sets.masks import true_mask
from seldomflip.sets.spreads import Falling, Live, Rising, Under
from seldomflip.sets.tables import smallest_table

# with three states a log that is above one of two events, and of a set, has at most nine events
SMALL = plain.some_machines(21, 90, "ab", 3) + plain.some_machines(22, 30, "a", 3)
WIDE = plain.some_machines(23, 40, "abc", 5) + plain.some_machines(24, 60, "ab", 6)
SOME = Logs.listing(AB, ("a", "b"), ("b", "b"), ("b", "a", "b"))
NO_SETS = plain.OTHERS + plain.NUMBERS + ((), ("a",), EVEN, plain.deep((), 9))
FULL = plain.FULL
EMPTY = Logs.nothing(AB)
ALL = Logs.everything(AB)


def blocks(source, many, width):
    """Blocks in which the first letter goes round; the other letters lead to later blocks, or to no good state."""
    begins = [0]
    for _ in range(many):
        begins.append(begins[-1] + source.randint(1, 3))
    dead = begins[-1]
    rows = []
    for begin, end in zip(begins, begins[1:]):
        later = [other for other in begins if other > begin]
        for state in range(begin, end):
            rows.append((begin if state == end - 1 else state + 1,) + tuple(source.choice(later) for _ in range(width - 1)))
    return tuple(rows) + ((dead,) * width,), tuple(source.random() < 0.5 for _ in range(dead)) + (False,)


def patterns_in(logs, most):
    """The logs of at most so many events that occur in one of the logs, and those that occur in a longer one."""
    found, shorter = set(), set()
    for log in logs:
        known = plain.patterns_of(log, most)
        found |= known
        shorter |= known - {log}
    return found, shorter


class AboveTest(unittest.TestCase):

    def test_against_all_short_logs(self):
        for machine in SMALL + WIDE:
            logs = Logs(machine)
            over, inside, shortest = above(logs), inside_down(logs), minimal(logs)
            for log in plain.all_logs(machine[0], 4):
                below_it = plain.subsets(log)
                good = {one for one in below_it if label(machine, one)}
                self.assertIs(log in over, bool(good))
                self.assertIs(log in inside, good == below_it)
                self.assertIs(log in shortest, good == {log})
            for found in (over, inside, shortest):
                self.assertEqual(least(found.machine), found.machine)

    def test_laws(self):
        for machine in WIDE:
            logs = Logs(machine)
            self.assertIs(logs.is_within(above(logs)), True)
            self.assertEqual(above(above(logs)), above(logs))
            self.assertEqual(above(minimal(logs)), above(logs))
            self.assertIs(is_closed_up(above(logs)), True)
            self.assertIs(is_closed_down(inside_down(logs)), True)
            self.assertEqual(minimal(above(logs)), minimal(logs))
            self.assertIsNot(minimal(logs).count(), None)

    def test_of_a_tuple(self):
        source = random.Random(25)
        logs = plain.all_logs("ab", 4)
        for many in (0, 1, 2, 4, 9):
            for _ in range(8):
                some = tuple(source.choice(logs) for _ in range(many))
                self.assertEqual(plain.unchanged(self, above_of, AB, some), above(Logs.listing_of(AB, some)))
                self.assertEqual(plain.unchanged(self, below_of, AB, some), below(Logs.listing_of(AB, some)))

    def test_of_long_logs(self):
        source = random.Random(29)
        letters = ("a", "b", "c")
        for many, short in ((1, 6), (2, 7), (3, 8), (6, 9), (9, 5)):
            long = [tuple(source.choice("abc") for _ in range(source.randint(100, 200))) for _ in range(many)]
            logs = tuple(long + [tuple(source.choice("abc") for _ in range(short)), ("c",) * 9, ("b", "a") * 2])
            found = above_of(letters, logs)
            self.assertEqual(found, above(Logs.listing_of(letters, minimal_of(logs))))
            self.assertEqual(tuple(minimal(found).listed(longest=200)), minimal_of(logs))
            for _ in range(100):
                log = tuple(source.choice("abc") for _ in range(source.randint(0, 60)))
                self.assertIs(log in found, any(plain.fits(one, log) for one in logs))

    def test_many_long_logs_take_few_steps(self):
        source = random.Random(30)
        near = [list(FULL[:199]) for _ in range(5)]
        for log in near:
            for at in (20, 60, 150):
                log[at + source.randrange(40)] = source.choice("ab")
        loose = [[source.choice("ab") for _ in range(100)] for _ in range(9)]
        for logs in (near, loose):
            logs = tuple(tuple(log) for log in logs)
            for call in (above_of, avoiding):
                steps = plain.lines_of(plain.refused, self, TooMany, call, AB, logs)
                self.assertLess(steps, 400000)

    def test_edges(self):
        self.assertEqual(above(EMPTY), EMPTY)
        self.assertEqual(above(ALL), ALL)
        self.assertEqual(above(Logs.listing(AB, ())), ALL)
        self.assertEqual(plain.unchanged(self, above_of, AB, ()), EMPTY)
        self.assertEqual(above_of(AB, ((), FULL)), ALL)
        self.assertEqual([minimal(EMPTY), minimal(ALL)], [EMPTY, Logs.listing(AB, ())])
        self.assertEqual([inside_down(EMPTY), inside_down(ALL)], [EMPTY, ALL])
        self.assertEqual(inside_down(~Logs.listing(AB, ())), EMPTY)
        self.assertEqual(inside_down(Logs(EVEN)), Logs((AB, ((1, 0), (1, 1)), (True, False))))

    def test_limit(self):
        self.assertEqual(len(above_of(AB, (FULL[:199],))), 200)
        self.assertEqual(len(above_of(AB, (FULL[:199], FULL, FULL[:199] + ("a",)))), 200)
        self.assertEqual(plain.refused(self, TooMany, above_of, AB, (FULL,)).limit, 200)
        late = Logs.sized(AB, least=199)
        self.assertEqual(above(late), late)
        self.assertEqual(plain.refused(self, TooMany, minimal, late).limit, 200)
        self.assertEqual(minimal(Logs.sized(AB, least=198)), Logs.sized(AB, least=198, most=198))

    def test_what_is_met_on_the_way_does_not_count(self):
        source = random.Random(26)
        logs = tuple(tuple(source.choice("abc") for _ in range(9)) for _ in range(25))
        listed = Logs.listing_of(("a", "b", "c"), logs)
        self.assertEqual(plain.refused(self, TooMany, above, listed).limit, 200)
        self.assertEqual(plain.refused(self, TooMany, below, listed).limit, 200)
        self.assertEqual(minimal(listed), listed)
        self.assertEqual(maximal(listed), listed)
        # ahead of six more events there is an a: many sets of states, but few of them unlike
        rows = tuple((2 * state % 128 + 1, 2 * state % 128) for state in range(128))
        seventh = Logs((AB, rows, tuple(state >= 64 for state in range(128))))
        self.assertEqual(len(seventh), 128)
        self.assertEqual(above(seventh), above(minimal(seventh)))
        self.assertEqual(len(above(seventh)), 8)
        self.assertEqual(below(seventh), ALL)

    def test_far_too_many_states(self):
        many = Logs.listing_of(AB, tuple(log + log[::-1] for log in plain.all_logs("ab", 6) if len(log) == 6))
        for call in (above, below):
            self.assertEqual(plain.refused(self, TooMany, call, many).limit, 200)


class BelowTest(unittest.TestCase):

    def test_against_all_short_logs(self):
        for machine in SMALL:
            logs = Logs(machine)
            known = plain.members(machine, 9)
            others = [log for log in plain.all_logs(machine[0], 9) if not label(machine, log)]
            occur, in_longer = patterns_in(known, 2)
            outside, _ = patterns_in(others, 2)
            under, inside, longest = below(logs), inside_up(logs), maximal(logs)
            for log in plain.all_logs(machine[0], 2):
                self.assertIs(log in under, log in occur)
                self.assertIs(log in inside, log not in outside)
                self.assertIs(log in longest, log in logs and log not in in_longer)
            for found in (under, inside, longest):
                self.assertEqual(least(found.machine), found.machine)

    def test_finite_sets_against_all_their_logs(self):
        source = random.Random(27)
        logs = plain.all_logs("abc", 5)
        for _ in range(60):
            some = [source.choice(logs) for _ in range(source.randint(1, 6))]
            listed = Logs.listing_of(("a", "b", "c"), tuple(some))
            wanted = set().union(*[plain.subsets(log) for log in some])
            self.assertEqual(list(below(listed).listed(longest=6)), plain.in_order(wanted))
            top = [log for log in set(some) if not any(log != one and plain.is_below(log, one) for one in some)]
            self.assertEqual(list(maximal(listed).listed(longest=6)), plain.in_order(top))

    def test_laws(self):
        for machine in WIDE:
            logs = Logs(machine)
            self.assertIs(logs.is_within(below(logs)), True)
            self.assertEqual(below(below(logs)), below(logs))
            self.assertIs(is_closed_down(below(logs)), True)
            self.assertIs(is_closed_up(inside_up(logs)), True)
            self.assertIs(inside_up(logs).is_within(logs), True)
            self.assertIs(maximal(logs).is_within(logs), True)
            self.assertEqual(maximal(below(logs)), maximal(logs))
            if logs.count() is not None:
                self.assertEqual(below(maximal(logs)), below(logs))

    def test_edges(self):
        self.assertEqual([below(EMPTY), below(ALL)], [EMPTY, ALL])
        self.assertEqual(below(Logs(EVEN)), ALL)
        self.assertEqual(plain.unchanged(self, below_of, AB, ()), EMPTY)
        self.assertEqual([maximal(EMPTY), maximal(ALL), maximal(Logs(PLAIN))], [EMPTY, EMPTY, EMPTY])
        self.assertEqual([inside_up(EMPTY), inside_up(ALL), inside_up(Logs(PLAIN))], [EMPTY, ALL, EMPTY])
        self.assertEqual(inside_up(Logs.sized(AB, least=4)), Logs.sized(AB, least=4))
        # the b stands at the end, so there is no end of the logs below; one that ends otherwise is maximal
        ends = Logs((AB, ((0, 1), (2, 2), (2, 2)), (False, True, False)))
        self.assertEqual(maximal(ends), EMPTY)
        self.assertEqual(maximal(ends | Logs.listing(AB, ("b", "a"))), Logs.listing(AB, ("b", "a")))

    def test_limit(self):
        self.assertEqual(len(below_of(AB, (("a",) * 198,))), 200)
        self.assertEqual(len(below_of(AB, (FULL[:198], FULL[:100]))), 200)
        for log in (FULL[:199], FULL):
            self.assertEqual(plain.refused(self, TooMany, below_of, AB, (log,)).limit, 200)
        short = Logs.sized(AB, most=198)
        self.assertEqual([below(short), maximal(short)], [short, Logs.sized(AB, least=198, most=198)])
        self.assertEqual([inside_up(~short), inside_down(short)], [~short, short])
        self.assertEqual(inside_up(short), EMPTY)
        # all logs but those that are above 199 events: what is inside, or not, has 200 states
        self.assertEqual(inside_down(~above_of(AB, (FULL[:199],))), ~above_of(AB, (FULL[:199],)))
        many = Logs.listing_of(AB, tuple(log + log[::-1] for log in plain.all_logs("ab", 6) if len(log) == 6))
        for call in (inside_down, inside_up):
            self.assertEqual(plain.refused(self, TooMany, call, ~many).limit, 200)

    def test_refuses(self):
        for value in NO_SETS:
            for call in (above, below, inside_up, inside_down, minimal, maximal, is_closed_up, is_closed_down):
                plain.refused(self, InvalidOperation, call, value)
            for call in (first_over, first_under):
                plain.refused(self, InvalidOperation, call, value, None)
        for call in (above_of, below_of):
            for value in plain.NO_LETTERS:
                plain.refused(self, InvalidLetters, call, value, None)
            for value in plain.OTHERS + plain.NUMBERS + plain.SETS + (("a",), [("a",)], plain.deep((), 9)):
                plain.refused(self, InvalidLog, call, AB, value)
            for value in plain.WRONG_LOGS:
                plain.refused(self, InvalidLog, call, AB, (FULL, value))


class FirstTest(unittest.TestCase):

    def test_against_all_short_logs(self):
        for machine in SMALL:
            logs = Logs(machine)
            known = plain.members(machine, 8)
            for log in plain.all_logs(machine[0], 2):
                over = [one for one in known if plain.is_below(log, one)]
                self.assertEqual(plain.unchanged(self, first_over, logs, log), over[0] if over else None)
            for log in plain.all_logs(machine[0], 4):
                under = [one for one in known if plain.is_below(one, log)]
                self.assertEqual(plain.unchanged(self, first_under, logs, log), under[0] if under else None)

    def test_edges(self):
        self.assertIs(first_over(EMPTY, ()), None)
        self.assertIs(first_under(EMPTY, FULL), None)
        self.assertEqual([first_over(ALL, FULL), first_under(ALL, FULL)], [FULL, ()])
        self.assertIs(first_over(Logs(PLAIN), ("b",)), None)
        self.assertEqual(first_under(Logs.sized(AB, least=199), FULL), ("a",) + ("a", "b") * 99)
        self.assertEqual(first_under(Logs.listing(AB, FULL[:198]), FULL), FULL[:198])

    def test_limit(self):
        ends = Logs((AB, ((0, 1), (0, 1)), (False, True)))
        self.assertEqual(first_over(ends, ("a",) * 199), ("a",) * 199 + ("b",))
        self.assertEqual(first_over(ends, FULL), FULL)
        self.assertEqual(plain.refused(self, TooMany, first_over, ends, ("a",) * 200).limit, 200)
        thirds = Logs(plain.round_of_states(AB, "a", 3, (0,)))
        self.assertEqual(len(first_over(thirds, ("b",) * 197 + ("a",))), 200)
        self.assertEqual(plain.refused(self, TooMany, first_over, thirds, ("b",) * 198 + ("a",)).limit, 200)

    def test_refuses(self):
        for value in plain.WRONG_LOGS:
            plain.refused(self, InvalidLog, first_over, ALL, value)
            plain.refused(self, InvalidLog, first_under, ALL, value)


def plain_open(machine, up):
    """Short logs that show that the set is open, upward or downward, in pairs: the shorter one, the longer one."""
    found = []
    for log in plain.all_logs(machine[0], len(machine[1]) + 1):
        for at in range(len(log)):
            less = log[:at] + log[at + 1:]
            if label(machine, less) != label(machine, log) and label(machine, less) == up:
                found.append((less, log))
    return found


def plain_closed(machine, pairs, up):
    """Whether the pairs show, by the definition, that the set of a least machine is closed."""
    _, rows, good = machine
    if list(pairs) != sorted(set(pairs)):
        return False
    steps = [(state, following) for state, row in enumerate(rows) for following in row]
    if not all((one if up else one[::-1]) in pairs for one in steps):
        return False
    if any(good[one] and not good[other] for one, other in pairs):
        return False
    return all(pair in pairs for one, other in pairs for pair in zip(rows[one], rows[other]))


class PapersTest(unittest.TestCase):

    def test_against_all_short_logs(self):
        for machine in SMALL + WIDE + [EVEN, PLAIN]:
            logs = Logs(machine)
            for up, is_closed in ((True, is_closed_up), (False, is_closed_down)):
                opened = plain_open(logs.machine, up)
                self.assertIs(is_closed(logs), not opened)
                paper = plain.unchanged(self, closure_paper, logs, up=up)
                if opened:
                    self.assertEqual((paper[0], len(paper)), ("open", 3))
                    self.assertIn(paper[1:] if up else paper[:0:-1], opened)
                else:
                    self.assertEqual((paper[0], len(paper)), ("closed", 2))
                    self.assertIs(plain_closed(logs.machine, paper[1], up), True)
                self.assertIs(is_closure_paper(logs, paper, up=up), True)
            self.assertEqual(closure_paper(logs), closure_paper(logs, up=True))

    def test_closed_sets(self):
        for machine in WIDE:
            for logs, up in ((above(Logs(machine)), True), (below(Logs(machine)), False)):
                paper = closure_paper(logs, up=up)
                self.assertEqual(paper[0], "closed")
                self.assertIs(plain_closed(logs.machine, paper[1], up), True)
                self.assertIs(is_closure_paper(logs, paper, up=up), True)
                self.assertIs(is_closure_paper(logs, paper, up=not up), len(logs) == 1)

    def test_all_short_logs_as_papers(self):
        for machine in SMALL[:30]:
            logs = Logs(machine)
            short = plain.all_logs(machine[0], 3)
            for log, other in product(short, repeat=2):
                good = label(machine, log) and not label(machine, other)
                up = good and len(other) == len(log) + 1 and plain.is_below(log, other)
                down = good and len(log) == len(other) + 1 and plain.is_below(other, log)
                self.assertIs(is_closure_paper(logs, ("open", log, other)), up)
                self.assertIs(is_closure_paper(logs, ("open", log, other), up=False), down)

    def test_all_pairs_as_papers(self):
        small = [Logs(machine) for machine in SMALL]
        small = [logs for logs in small if len(logs) <= 2] + [Logs.sized(("a",), least=1), Logs.sized(("a",), most=0)]
        for logs in small[:8] + small[-2:]:
            states = list(product(range(len(logs)), repeat=2))
            for kept in product((True, False), repeat=len(states)):
                pairs = tuple(pair for pair, keep in zip(states, kept) if keep)
                for up in (True, False):
                    wanted = plain_closed(logs.machine, pairs, up)
                    self.assertIs(is_closure_paper(logs, ("closed", pairs), up=up), wanted)

    def test_the_state_order_is_that_of_the_least_machine(self):
        one = Logs((("a",), ((2,), (1,), (1,)), (False, True, True)))
        self.assertIs(is_closure_paper(one, ("closed", ((0, 1), (1, 1)))), True)
        self.assertIs(is_closure_paper(one, ("closed", ((0, 2), (1, 1), (2, 1)))), False)

    def test_long_papers(self):
        # the only logs with which each of these sets is open have 199 or 200 events
        logs = Logs.listing(("a",), ("a",) * 198) | Logs.sized(("a",), most=197)
        self.assertEqual(len(logs), 200)
        self.assertEqual(closure_paper(logs), ("open", ("a",) * 198, ("a",) * 199))
        tail = Logs(plain.tail(200, 199, tuple(range(199))))
        self.assertEqual(closure_paper(tail), ("open", ("a",) * 198, ("a",) * 199))
        late = Logs(plain.tail(200, 199, (199,)))
        self.assertEqual(closure_paper(late, up=False), ("open", ("a",) * 199, ("a",) * 198))
        turning = Logs(plain.tail(200, 0, tuple(range(199))))
        self.assertEqual(closure_paper(turning), ("open", ("a",) * 198, ("a",) * 199))
        back = Logs(plain.tail(200, 0, tuple(range(1, 200))))
        self.assertEqual(closure_paper(back), ("open", ("a",) * 199, ("a",) * 200))
        for log in (closure_paper(back), ("open", ("a",) * 199, ("a",) * 200)):
            self.assertIs(is_closure_paper(back, log), True)
        self.assertIs(is_closure_paper(back, ("open", ("a",) * 399, ("a",) * 400)), False)
        self.assertIs(is_closure_paper(Logs.sized(("a",), most=0), ("open", (), ("a",))), True)

    def test_many_states(self):
        for logs in (above_of(AB, (FULL[:199],)), below_of(AB, (FULL[:198],))):
            self.assertEqual([is_closed_up(logs), is_closed_down(logs)], [logs.first() != (), logs.first() == ()])
            for up in (True, False):
                paper = closure_paper(logs, up=up)
                self.assertIs(is_closure_paper(logs, paper, up=up), True)
                self.assertIs(is_closure_paper(logs, paper, up=not up), False)

    def test_accepts_every_value(self):
        one = above_of(("a",), (("a",),))
        for value in [value for value in plain.NO_LOGS + plain.SETS if value != 1 or value is True]:
            for paper in (value, ("closed", value), ("closed", (value,)), ("closed", ((0, 1), (1, 1)), value),
                          ("closed", ((0, 1), (1, value))), ("closed", ((0, 1), value)), (value, ((0, 1), (1, 1))),
                          ("closed", (value, (0, 1), (1, 1)))):
                self.assertIs(plain.unchanged(self, is_closure_paper, one, paper), False, paper)
            for paper in (("open", value, ("a",)), ("open", (), value), (value, (), ("a",)), ("open", (), ("a",), value)):
                self.assertIs(is_closure_paper(Logs.listing(("a",), ()), paper), False, paper)
        self.assertIs(is_closure_paper(one, ("closed", ((0, 1), (1, 1)))), True)
        for paper in (("closed", ((-1, 1), (0, 1), (1, 1))), ("closed", ((0, 1), (1, -1), (1, 1)))):
            self.assertIs(is_closure_paper(one, paper), False, paper)
        for paper in (["closed", ((0, 1), (1, 1))], ("closed", [(0, 1), (1, 1)]), ("closed", ((1, 1), (0, 1))),
                      ("closed", ((0, 1), (0, 1), (1, 1))), ("closed", ((0, 1), (1, 1), (1, 2))), ("open", ((0, 1), (1, 1))),
                      ("closed", ((0, True), (1, 1))), ("Closed", ((0, 1), (1, 1))), ("closed",), ("closed", ())):
            self.assertIs(is_closure_paper(one, paper), False, paper)
        self.assertIs(is_closure_paper(Logs.listing(("a",), ()), ("open", (), ("a",))), True)
        self.assertIs(is_closure_paper(Logs.listing(("a",), ()), ("open", (), ("a",)), up=False), False)

    def test_refuses(self):
        for value in NO_SETS:
            plain.refused(self, InvalidOperation, closure_paper, value, up=None)
            plain.refused(self, InvalidOperation, is_closure_paper, value, None, up=None)
        for value in plain.NUMBERS + plain.SETS + (None, "True", (), (True,), [], {}):
            plain.refused(self, InvalidOperation, closure_paper, ALL, up=value)
            plain.refused(self, InvalidOperation, is_closure_paper, ALL, None, up=value)


class WaysAgreeTest(unittest.TestCase):
    """The ways to find a closure, of which all but the first one are taken for hard sets only."""

    def check(self, rows, goods):
        falling = Falling(rows, [0])
        live = Live(falling, true_mask([goods[state] for state in falling.order]))
        rising = Rising(rows, goods)
        for spread, begin in ((rising, rising.begin_mask()), (live, falling.reach[falling.place[0]] & live.goods)):
            wanted = settled(begin, spread.width, spread.behind, lambda mask: mask & spread.goods != 0, 10 ** 9, None)
            self.assertEqual(smallest_table(*wanted, 0, 10 ** 9), wanted)
            found = settled(spread.filled(begin), spread.width, lambda mask, at: spread.filled(spread.behind(mask, at)),
                            lambda mask: mask & spread.goods != 0, 10 ** 9, None)
            self.assertEqual(found, wanted)
            for step in (spread.behind, lambda mask, at: spread.filled(spread.behind(mask, at))):
                for many in (guessing.MANY_TESTS, 1, 5):
                    with mock.patch.object(guessing, "MANY_TESTS", many):
                        tests, _ = guessing.first_tests(spread)
                    self.assertEqual(guessing.guessed(spread, step, begin, tests, 10 ** 9), wanted)
            self.assertIs(settled(begin, spread.width, spread.behind, None, 10 ** 9, 0), None)
        for configs in (Minimal(rows, goods), Maximal(rows, goods)):
            first, width = configs.first_config, configs.width
            wanted = settled(first, width, configs.behind, configs.is_good, 10 ** 9, None)
            self.assertEqual(smallest_table(*wanted, 0, 10 ** 9), wanted)
            self.assertEqual(settled(first, width, configs.filled_behind, configs.is_good, 10 ** 9, None), wanted)

    def test_small_sets(self):
        for machine in SMALL + WIDE:
            _, rows, goods = least(machine)
            self.check(rows, goods)

    def test_each_way_alone(self):
        # with no patience for one way the next one is taken
        calls = (above, below, minimal, maximal)
        for machine in SMALL[::3] + WIDE:
            logs = Logs(machine)
            wanted = [call(logs) for call in calls]
            with mock.patch.object(spreads, "PATIENCE", 0), mock.patch.object(extremes, "PATIENCE", 0):
                self.assertEqual([call(logs) for call in calls], wanted)
                with mock.patch.object(guessing, "MANY_TESTS", 1):
                    self.assertEqual([call(logs) for call in calls], wanted)
                    with mock.patch.object(spreads, "MORE_PATIENCE", 0):
                        self.assertEqual([call(logs) for call in calls], wanted)

    def test_sets_without_loops(self):
        source = random.Random(28)
        for many in (18, 24, 30):
            for _ in range(4):
                rows = tuple(tuple(min(state + source.randint(1, 6), many - 1) for _ in "abc") for state in range(many - 1))
                goods = tuple(state < many - 1 and source.random() < 0.15 for state in range(many))
                self.check(*smallest_table(rows + ((many - 1,) * 3,), goods, 0, many))

    def test_sets_with_loops(self):
        source = random.Random(29)
        for _ in range(120):
            rows, goods = blocks(source, source.randint(2, 4), source.randint(2, 4))
            rows, goods = smallest_table(rows, goods, 0, 200)
            self.check(rows, goods)
            falling = Falling(rows, [0])
            live = Live(falling, true_mask([goods[state] for state in falling.order]))
            under = Under(falling, live.goods).masks
            for state, mask in enumerate(under):
                if live.goods >> state & 1:
                    self.assertEqual(mask & falling.reach[state] & live.goods, falling.reach[state] & live.goods)

    def test_hard_sets(self):
        # with these there are more than 20000 different masks that are not filled
        for many, seed, wanted in ((60, 38, 19), (200, 28, 17)):
            source = random.Random(seed)
            dead = many - 1
            rows = tuple(tuple(min(source.randrange(many), dead) if source.random() < 0.4 else dead for _ in "abcd")
                         for _ in range(dead))
            goods = tuple(source.random() < 0.02 for _ in range(dead)) + (False,)
            logs = Logs((("a", "b", "c", "d"), rows + ((dead,) * 4,), goods))
            found = above(logs)
            self.assertEqual(len(found), wanted)
            self.assertEqual(minimal(found), minimal(logs))
            for _ in range(300):
                log = tuple(source.choice("abcd") for _ in range(source.randint(0, 12)))
                self.assertIs(log in found, first_under(logs, log) is not None)


if __name__ == "__main__":
    unittest.main()
