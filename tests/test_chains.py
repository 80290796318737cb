"""Chains and lists of them."""

import random
import unittest
from itertools import product

import plain
from plain import AB
from seldomflip.errors import InvalidChain, InvalidLetters, InvalidLog, InvalidNumber, InvalidOperation, TooMany
from seldomflip.sets.chains import (
    avoiding, bars, chains_of, first_outside, full_log, is_chain, is_in_chain, is_list_of, is_within, list_logs, reduced,
    rest_of)
from seldomflip.sets.closures import above_of, below, below_of, is_closed_down
from seldomflip.sets.logsets import Logs
from seldomflip.sets.unions import least_outside

ABC = ("a", "b", "c")
A, B, C = ("maybe", "a"), ("maybe", "b"), ("maybe", "c")
ANY = ("any", AB)
FULL = plain.FULL
ALL = Logs.everything(AB)
WORDS = tuple(one + other for one in "abcdefghijklmnopqrst" for other in "abcdefghijklmnopqrst")
NO_ATOMS = plain.NO_LOGS + plain.SETS + (
    ("maybe",), ("maybe", "a", "b"), ("maybe", "A"), ("maybe", ""), ("maybe", ("a",)), ("maybe", None), ("maybe", 1),
    ("maybe", plain.LONG_NAME), ["maybe", "a"], ("Maybe", "a"), ("a", "maybe"), (None, "a"), ("any", ()), ("any", "a"),
    ("any", ["a"]), ("any", ("b", "a")), ("any", ("a", "a")), ("any", ("a", "B")), ("any", ("a", 1)), ("any", None),
    ("any", ("a",), ("b",)), ("any", (("a",),)), ("Any", ("a",)), ("", ("a",)), (("any",), ("a",)), ("any", {"a": True}))
# ("a", "b") is no atom, but the empty tuple and tuples of atoms are chains
NO_CHAINS = tuple(value for value in NO_ATOMS if value != ()) + tuple((value,) for value in NO_ATOMS) + tuple(
    (A, ANY, value) for value in NO_ATOMS) + ((A,) * 401, (ANY,) * 401, [A], (A, [B]), {0: A}, A, ANY)
STRANGE = ((C,), (("any", ABC),), (A, ANY, C), (("maybe", "aa"),), (("any", ("a", "aa")),))
NO_TIMES = plain.NO_NUMBERS + plain.SETS + (-1, 201, 10 ** 59, -(10 ** 59))


def atoms_over(letters):
    kinds = [("maybe", letter) for letter in letters]
    for kept in product((True, False), repeat=len(letters)):
        inside = tuple(letter for letter, keep in zip(letters, kept) if keep)
        kinds += [("any", inside)] if inside else []
    return kinds


def all_chains(letters, most):
    return [chain for length in range(most + 1) for chain in product(atoms_over(letters), repeat=length)]


def logs_of(chain, most):
    """The logs of at most so many events for which the chain stands."""
    found = {()}
    for kind, inside in chain:
        if kind == "maybe":
            found |= {log + (inside,) for log in found if len(log) < most}
            continue
        fresh = found
        while fresh:
            fresh = {log + (letter,) for log in fresh for letter in inside if len(log) < most} - found
            found |= fresh
    return found


def some_chains(seed, many, letters, most):
    source = random.Random(seed)
    kinds = atoms_over(letters)
    return [tuple(source.choice(kinds) for _ in range(source.randint(0, most))) for _ in range(many)]


def stairs(many):
    return tuple((A,) * at + (B,) * (many - at) for at in range(many + 1))


class ChainTest(unittest.TestCase):

    def test_is_chain(self):
        for chain in all_chains(AB, 2) + [(A,) * 400, (ANY,) * 400, (A, ANY) * 200]:
            self.assertIs(plain.unchanged(self, is_chain, AB, chain), True)
        self.assertIs(is_chain(ABC, (C, ("any", ABC), ("any", ("a", "c")))), True)
        for chain in STRANGE:
            self.assertIs(plain.unchanged(self, is_chain, AB, chain), False)
        for value in NO_CHAINS:
            self.assertIs(plain.unchanged(self, is_chain, AB, value), False, value)
        for value in plain.NO_LETTERS:
            plain.refused(self, InvalidLetters, is_chain, value, None)

    def test_logs_of_chains(self):
        for chain in all_chains(AB, 2) + some_chains(31, 60, ABC, 5):
            known = logs_of(chain, 4)
            for log in plain.all_logs("abc", 3):
                self.assertIs(is_in_chain(chain, log), log in known)

    def test_rests(self):
        for chain in all_chains(AB, 2) + some_chains(32, 60, ABC, 5):
            known = logs_of(chain, 5)
            for log in plain.all_logs("abc", 2):
                wanted = {one[len(log):] for one in known if one[:len(log)] == log}
                rest = rest_of(chain, log)
                if rest is None:
                    self.assertEqual(wanted, set())
                else:
                    self.assertEqual(logs_of(rest, 5 - len(log)), wanted)
                    self.assertEqual(reduced(rest), rest)

    def test_within_and_outside(self):
        chains = all_chains(AB, 2) + some_chains(33, 40, ABC, 4)
        known = [logs_of(chain, 6) for chain in chains]
        for chain, logs in zip(chains, known):
            for other, others in zip(chains, known):
                missing = plain.in_order(logs - others)
                self.assertIs(is_within(chain, other), not missing, (chain, other))
                self.assertEqual(first_outside(chain, other), missing[0] if missing else None)

    def test_long_letters(self):
        both, letter, letters = ("maybe", "ab"), ("any", ("ab",)), ("any", ("a", "ab", "b"))
        for chain, other, wanted in (((both,), (ANY,), False), ((both,), (A, B), False), ((A, B), (both,), False),
                                     ((both,), (letter,), True), ((both, both), (both,), False), ((letter,), (ANY,), False),
                                     ((both, letter, A), (letters,), True), ((letter, ANY), (letters,), True)):
            self.assertIs(is_within(chain, other), wanted)
            self.assertIs(first_outside(chain, other) is None, wanted)
        self.assertEqual([first_outside((both,), (ANY,)), reduced((both, ANY)), reduced((both, letters))],
                         [("ab",), (both, ANY), (letters,)])
        self.assertEqual([is_in_chain((ANY,), ("ab",)), rest_of((both, A), ("ab",)), full_log((letters, both), 1)],
                         [False, (A,), ("a", "ab", "b", "ab")])

    def test_reduced(self):
        for chain in all_chains(AB, 3) + some_chains(34, 100, ABC, 6):
            found = reduced(chain)
            self.assertEqual(logs_of(found, 5), logs_of(chain, 5))
            for at in range(len(found)):
                self.assertIs(is_within(found, found[:at] + found[at + 1:]), False)
            self.assertEqual(reduced(found), found)

    def test_equal_chains_have_one_reduced_row(self):
        firsts = {}
        for chain in all_chains(AB, 3):
            known = frozenset(logs_of(chain, 7))
            self.assertEqual(firsts.setdefault(known, reduced(chain)), reduced(chain))

    def test_full_logs(self):
        for chain in all_chains(AB, 2) + some_chains(35, 30, ABC, 3):
            known = logs_of(chain, 3)
            for times in range(4):
                found = full_log(chain, times)
                self.assertIs(is_in_chain(chain, found), True)
                for log in known:
                    self.assertIs(len(log) > times or plain.is_below(log, found), True)

    def test_ordinary(self):
        chain = (A, ANY, C)
        self.assertEqual(plain.unchanged(self, reduced, chain), (ANY, C))
        self.assertEqual(plain.unchanged(self, full_log, chain, 2), ("a", "a", "b", "a", "b", "c"))
        self.assertEqual(plain.unchanged(self, full_log, chain, 0), ("a", "c"))
        self.assertEqual(plain.unchanged(self, rest_of, chain, ("c",)), ())
        self.assertIs(plain.unchanged(self, rest_of, chain, ("c", "a")), None)
        self.assertIs(plain.unchanged(self, is_in_chain, chain, ("a", "b", "c")), True)
        self.assertEqual(plain.unchanged(self, first_outside, (ANY,), (("any", ("b",)),)), ("a",))
        self.assertIs(plain.unchanged(self, is_within, (A, B, A), (ANY,)), True)

    def test_many_letters(self):
        wide = (("any", tuple(sorted(WORDS))),)
        self.assertIs(is_in_chain(wide, WORDS[:200]), True)
        self.assertEqual(first_outside(wide, (("any", tuple(sorted(WORDS)[1:])),)), ("aa",))
        self.assertIs(is_within((("maybe", "zz"),), wide), False)
        self.assertEqual(plain.refused(self, TooMany, full_log, wide, 1).limit, 200)
        self.assertEqual(full_log(wide, 0), ())

    def test_many_atoms(self):
        line = (A,) * 400
        self.assertEqual([is_in_chain(line, ("a",) * 200), is_in_chain(line, ("b",)), reduced(line)], [True, False, line])
        self.assertEqual([len(rest_of(line, ("a",) * 200)), reduced((ANY,) * 400)], [200, (ANY,)])
        self.assertEqual(reduced(line[:399] + (ANY,)), (ANY,))
        self.assertEqual(full_log((A,) * 200, 200), ("a",) * 200)
        self.assertEqual(full_log((ANY,), 100), AB * 100)
        for chain, times in (((A,) * 201, 0), ((ANY,), 101), ((ANY, A), 100), (line, 0), ((ANY,) * 400, 200)):
            self.assertEqual(plain.refused(self, TooMany, full_log, chain, times).limit, 200)
        self.assertEqual(full_log((ANY,) * 400, 0), ())

    def test_first_outside_far_away(self):
        self.assertEqual(first_outside((A,) * 400, (A,) * 199), ("a",) * 200)
        self.assertEqual(plain.refused(self, TooMany, first_outside, (A,) * 400, (A,) * 200).limit, 200)
        self.assertEqual(plain.refused(self, TooMany, first_outside, (("any", ("a",)),), (A,) * 399).limit, 200)
        self.assertIs(first_outside((A,) * 399, (A,) * 400), None)
        one = (ANY, C) * 200
        self.assertEqual(first_outside(one, (ANY, C) * 199), ("c",) * 199 + ("a",))
        self.assertIs(first_outside(one[2:], one), None)

    def test_refuses(self):
        for value in NO_CHAINS:
            for call in (is_in_chain, rest_of):
                plain.refused(self, InvalidChain, call, value, None)
            for call in (is_within, first_outside):
                plain.refused(self, InvalidChain, call, value, value)
                plain.refused(self, InvalidChain, call, (A,), value)
            plain.refused(self, InvalidChain, reduced, value)
            plain.refused(self, InvalidChain, full_log, value, -1)
        for value in plain.NO_LOGS + plain.SETS:
            for call in (is_in_chain, rest_of):
                plain.refused(self, InvalidLog, call, (A,), value)
        for value in NO_TIMES:
            self.assertEqual(plain.refused(self, InvalidNumber, full_log, (A,), value).value, value)
        # without letters, chains and logs may have any
        self.assertIs(is_in_chain(STRANGE[3], ("zz",)), False)


class ListTest(unittest.TestCase):

    def check(self, letters, chains):
        logs = list_logs(letters, chains)
        known = set().union(*[logs_of(chain, 4) for chain in chains])
        self.assertEqual(list(logs.listed(longest=4)), plain.in_order(known))
        self.assertIs(is_closed_down(logs), True)
        different = {reduced(chain) for chain in chains}
        wanted = tuple(sorted(chain for chain in different
                              if not any(chain != one and is_within(chain, one) for one in different)))
        self.assertEqual(chains_of(logs), wanted)
        self.assertIs(is_list_of(logs, wanted), True)
        found = bars(letters, chains)
        outside = [log for log in plain.all_logs(letters, 4) if not any(is_in_chain(chain, log) for chain in chains)]
        least = [log for log in outside if not any(one != log and plain.is_below(one, log) for one in outside)]
        self.assertEqual([log for log in found if len(log) <= 4], least)
        self.assertEqual(list(found), plain.in_order(set(found)))
        self.assertEqual(~above_of(letters, found), logs)
        self.assertEqual(avoiding(letters, found), wanted)

    def test_all_short_lists(self):
        chains = all_chains(AB, 1) + [(A, B), (ANY, A), (("any", ("a",)), B), (B, ("any", ("a",)))]
        for many in range(3):
            for some in product(chains, repeat=many):
                self.check(AB, some)

    def test_some_lists(self):
        for seed in range(60):
            self.check(ABC, tuple(some_chains(seed, seed % 5 + 1, ABC, 4)))

    def test_of_closures(self):
        source = random.Random(36)
        logs = plain.all_logs("abc", 4)
        for many in range(6):
            for _ in range(6):
                some = tuple(source.choice(logs) for _ in range(many))
                under = below_of(ABC, some)
                self.assertEqual(list_logs(ABC, chains_of(under)), under)
                free = avoiding(ABC, some)
                self.assertEqual(list_logs(ABC, free), ~above_of(ABC, some))
                for log in plain.all_logs("abc", 3):
                    stands = any(is_in_chain(chain, log) for chain in free)
                    self.assertIs(stands, not any(plain.is_below(one, log) for one in some))

    def test_edges(self):
        self.assertEqual(plain.unchanged(self, list_logs, AB, ()), Logs.nothing(AB))
        self.assertEqual(list_logs(AB, ((),)), Logs.listing(AB, ()))
        self.assertEqual(plain.unchanged(self, chains_of, Logs.nothing(AB)), ())
        self.assertEqual([chains_of(Logs.listing(AB, ())), chains_of(ALL)], [((),), ((ANY,),)])
        self.assertEqual([plain.unchanged(self, bars, AB, ()), bars(AB, ((ANY,),)), bars(AB, ((),))],
                         [((),), (), (("a",), ("b",))])
        self.assertEqual([avoiding(AB, ()), avoiding(AB, ((),)), avoiding(AB, (("a",), ("b",)))], [((ANY,),), (), ((),)])
        self.assertEqual(plain.unchanged(self, avoiding, AB, (("a", "b"),)), ((("any", ("b",)), ("any", ("a",))),))
        self.assertIs(is_list_of(Logs.nothing(AB), ()), True)
        self.assertIs(is_list_of(Logs.nothing(AB), ((),)), False)
        self.assertIs(is_list_of(Logs.listing(AB, ("a",)), ((A,),)), False)
        # no such set is closed downward
        for logs in (Logs.listing(AB, ("a",)), ALL - Logs.listing(AB, ()), Logs.listing(AB, (), ("a", "b")), Logs(plain.EVEN)):
            for value in ((), ((),), ((A, B),), ((ANY,),), ((("any", ("b",)),),), chains_of(below(logs))):
                self.assertIs(is_list_of(logs, value), False)

    def test_states(self):
        self.assertEqual(len(list_logs(AB, ((A,) * 198,))), 200)
        self.assertEqual(plain.refused(self, TooMany, list_logs, AB, ((A,) * 199,)).limit, 200)
        self.assertEqual(plain.refused(self, TooMany, bars, AB, ((A,) * 199,)).limit, 200)
        self.assertEqual(bars(AB, ((A,) * 198,)), (("b",), ("a",) * 199))
        self.assertEqual(chains_of(below_of(AB, (FULL[:198],))), ((A, B) * 99,))
        self.assertEqual(len(avoiding(AB, (FULL[:199],))[0]), 199)
        self.assertEqual(plain.refused(self, TooMany, avoiding, AB, (FULL,)).limit, 200)
        self.assertEqual(avoiding(AB, (FULL, ("a",))), ((("any", ("b",)),),))
        # what is met on the way does not count
        whole = ((A,) * 400, (("any", ("a",)), B), stairs(300)[7], (ANY,))
        self.assertEqual(list_logs(AB, whole), ALL)
        self.assertEqual(bars(AB, whole), ())

    def test_many_chains(self):
        logs = list_logs(AB, stairs(99))
        self.assertEqual([len(logs), chains_of(logs)], [199, tuple(sorted(stairs(99)))])
        self.assertIs(is_list_of(logs, tuple(sorted(stairs(99)))), True)
        # 101 chains of 51 atoms, which share most of what is left of them
        wide = tuple((C,) * at + (A,) * (50 - at) for at in range(51)) + tuple((C,) * at + (B,) * (50 - at) for at in range(50))
        many = list_logs(ABC, wide)
        self.assertLessEqual(len(many), 200)
        self.assertEqual(plain.refused(self, TooMany, chains_of, many).limit, 100)
        self.assertIs(is_list_of(many, tuple(sorted(wide))), True)
        self.assertIs(is_list_of(many, tuple(sorted(wide))[1:]), False)
        self.assertEqual(chains_of(list_logs(ABC, wide[:-1])), tuple(sorted(wide[:-1])))
        self.assertEqual(plain.refused(self, TooMany, avoiding, ABC, bars_of(wide)).limit, 100)
        self.assertEqual(len(avoiding(ABC, bars_of(wide[:-1]))), 100)

    def test_many_bars(self):
        for many in (97, 98):
            wanted = (("b", "a"),) + tuple(("a",) * at + ("b",) * (many + 1 - at) for at in range(many + 2))[::-1]
            self.assertEqual(plain.in_order(wanted)[:1], [("b", "a")])
            if len(wanted) <= 100:
                self.assertEqual(list(bars(AB, stairs(many))), plain.in_order(wanted))
            else:
                self.assertEqual(len(wanted), 101)
                self.assertEqual(plain.refused(self, TooMany, bars, AB, stairs(many)).limit, 100)
            self.assertEqual(avoiding(AB, wanted), tuple(sorted(stairs(many))))

    def test_is_list_of(self):
        logs = list_logs(AB, ((A, B), (B, A)))
        wanted = ((A, B), (B, A))
        self.assertIs(plain.unchanged(self, is_list_of, logs, wanted), True)
        for value in (wanted[::-1], wanted[:1], (), wanted + ((B,),), ((A,),) + wanted, wanted + wanted[1:], list(wanted),
                      ((A, B), [B, A]), ((A, B), (B, ["maybe", "a"])), ((A, A, B), (B, A)), ((A, B), (B, A), (C,))):
            self.assertIs(plain.unchanged(self, is_list_of, logs, value), False)
        for value in NO_CHAINS:
            self.assertIs(plain.unchanged(self, is_list_of, logs, value), False)
            self.assertIs(is_list_of(logs, ((A, B), value)), False)
        self.assertIs(is_list_of(list_logs(AB, ((ANY,),)), ((A, ANY),)), False)
        for opened in (Logs(plain.EVEN), ~Logs.listing(AB, ()), Logs.listing(AB, ("a",))):
            for value in ((), ((),), ((ANY,),), ((A,),), None):
                self.assertIs(plain.unchanged(self, is_list_of, opened, value), False)

    def test_refuses(self):
        for call in (list_logs, avoiding, bars):
            for value in plain.NO_LETTERS:
                plain.refused(self, InvalidLetters, call, value, None)
        for call in (list_logs, bars):
            for value in plain.OTHERS + plain.NUMBERS + plain.SETS + (A, ANY, [()], plain.deep((), 9)):
                if value != ():
                    plain.refused(self, InvalidChain, call, AB, value)
            for value in NO_CHAINS + STRANGE:
                plain.refused(self, InvalidChain, call, AB, (value,))
                plain.refused(self, InvalidChain, call, AB, ((A,), (A,) * 400, value))
        for value in plain.OTHERS + plain.NUMBERS + plain.SETS + (("a",), [("a",)], plain.deep((), 9)):
            plain.refused(self, InvalidLog, avoiding, AB, value)
        for value in plain.WRONG_LOGS:
            plain.refused(self, InvalidLog, avoiding, AB, (("a",), FULL, value))
        for value in plain.OTHERS + plain.NUMBERS + ((), (A,), ((A,),), plain.EVEN):
            plain.refused(self, InvalidOperation, chains_of, value)
            plain.refused(self, InvalidOperation, is_list_of, value, ())
            plain.refused(self, InvalidOperation, is_list_of, value, None)
        for opened in (Logs(plain.EVEN), ~Logs.listing(AB, ()), Logs.listing(AB, ("a",))):
            plain.refused(self, InvalidOperation, chains_of, opened)


def bars_of(chains):
    """The bars of chains over three letters, however many there are."""
    paths = least_outside(list_logs(ABC, chains).machine, 10 ** 9)
    return tuple(tuple(ABC[at] for at in path) for path in paths)


if __name__ == "__main__":
    unittest.main()
