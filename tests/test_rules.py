"""Rules, their sets, judges and ladders, and normal rules."""

import random
import unittest

import plain
from plain import AB, FULL, LAST, NO_LETTERS, ONCE, TURNS
from seldomflip.base.patterns import is_alike
from seldomflip.errors import (
    InvalidLetters, InvalidLog, InvalidOperation, InvalidRule, TooMany, Unlimited)
from seldomflip.judges.judges import least_judge, logs_with, verdict_of
from seldomflip.rules.rules import (
    first_unlike, holds, implies, is_rule, normal, patterns_of, rule_for, rule_judge, rule_ladder, rule_logs)
from seldomflip.sets.closures import above_of, minimal
from seldomflip.sets.logsets import Logs
from seldomflip.towers.ladders import Ladder, is_least, least_ladder
from seldomflip.towers.swings import greatest_swing, number
from test_towers import WIDER, chain_judge

ABC = ("a", "b", "c")


def occurs(text):
    return ("occurs", tuple(text))


def deep_rule(levels):
    """A rule that is nested so deep."""
    rule = occurs("a")
    for _ in range(levels - 1):
        rule = ("not", rule)
    return rule


def wide_rule(many):
    return ("or",) + tuple(occurs("ab" * (at % 3)) for at in range(many))


NO_RULES = plain.OTHERS + plain.NUMBERS + plain.SETS + (
    (), ("occurs",), ("occurs", "a"), ("occurs", ("c",)), ("occurs", ("a",), ("a",)), ("occurs", ["a"]), ["occurs", ("a",)],
    ("occurs", plain.TOO_LONG), ("not",), ("not", occurs("a"), occurs("a")), ("not", ("a",)), ("and",), ("and", occurs("a")),
    ("or", occurs("a")), ("or",), ("and", occurs("a"), None), ("or", occurs("a"), occurs("b"), ("not",)), ("xor", occurs("a"), occurs("b")),
    ("and", [occurs("a"), occurs("b")]), (("not",), occurs("a")), (None, occurs("a")), ("occurs", (("a",),)), occurs,
    deep_rule(21), ("and", occurs("a"), deep_rule(20)), wide_rule(41), ("and", wide_rule(20), wide_rule(21)), ("a",), ((), ()),
    ("Not", occurs("a")), ("occurs", ()) * 2)[:-2] + (("not", ("occurs", plain.TOO_LONG)),)
RULE_CALLS = (patterns_of, rule_logs, rule_judge, rule_ladder, normal)


def some_rules(seed, letters, many, levels=3):
    """Rules with patterns of at most three events."""
    source = random.Random(seed)
    logs = plain.all_logs(letters, 3)

    def one(left):
        word = source.choice(("occurs", "not", "and", "or") if left > 1 else ("occurs",))
        if word == "occurs":
            return ("occurs", source.choice(logs))
        return (word,) + tuple(one(left - 1) for _ in range(1 if word == "not" else source.randint(2, 3)))

    return [one(levels) for _ in range(many)]


RULES = some_rules(1, AB, 120) + some_rules(2, AB, 20, 4) + some_rules(3, ("a",), 10)
FEW = [rule for rule in RULES if len(patterns_of(AB, rule)) < 5]


def plain_holds(rule, log):
    if rule[0] == "occurs":
        return plain.fits(rule[1], log)
    parts = [plain_holds(part, log) for part in rule[1:]]
    return {"not": not parts[0], "and": all(parts), "or": any(parts)}[rule[0]]


def plain_patterns(rule):
    return [rule[1]] if rule[0] == "occurs" else [one for part in rule[1:] for one in plain_patterns(part)]


def plain_depth(rule):
    return 1 if rule[0] == "occurs" else 1 + max(plain_depth(part) for part in rule[1:])


class RuleTest(unittest.TestCase):

    def test_is_rule(self):
        for rule in RULES + [deep_rule(20), wide_rule(40), ("and", wide_rule(20), wide_rule(20)), ("occurs", ()), ("occurs", FULL)]:
            self.assertIs(plain.unchanged(self, is_rule, AB, rule), True)
        for value in NO_RULES:
            self.assertIs(is_rule(AB, value), False, value)
        self.assertTrue(is_rule(ABC, occurs("c")))

    def test_many_equal_parts(self):
        # such a rule would have very many patterns
        rule = occurs("a")
        for _ in range(60):
            rule = ("and", rule, rule)
        self.assertFalse(is_rule(AB, rule))

    def test_holds(self):
        for rule in RULES:
            self.assertEqual(patterns_of(AB, rule), tuple(plain.in_order(set(plain_patterns(rule)))))
            for log in plain.all_logs(AB, 4) + [("a", "b", "b", "a", "b", "a")]:
                self.assertIs(holds(AB, rule, log), plain_holds(rule, log))
        self.assertIs(holds(AB, ("occurs", ()), ()), True)
        self.assertIs(holds(AB, ("occurs", FULL), FULL), True)
        self.assertIs(holds(AB, ("occurs", FULL), FULL[1:]), False)
        # these know no bound of stands
        many = ("and",) + tuple(occurs(letter * 20) for letter in "abc")
        self.assertIs(holds(ABC, many, ("a", "b", "c") * 20), True)
        self.assertEqual(len(patterns_of(ABC, many)), 3)

    def test_refuses(self):
        for value in NO_LETTERS:
            for call in RULE_CALLS:
                plain.refused(self, InvalidLetters, call, value, None)
            plain.refused(self, InvalidLetters, is_rule, value, None)
            plain.refused(self, InvalidLetters, holds, value, None, None)
            plain.refused(self, InvalidLetters, first_unlike, value, None, None)
            plain.refused(self, InvalidLetters, implies, value, None, None)
        for value in NO_RULES:
            for call in RULE_CALLS:
                plain.refused(self, InvalidRule, call, AB, value)
            plain.refused(self, InvalidRule, holds, AB, value, None)
            for call in (first_unlike, implies):
                plain.refused(self, InvalidRule, call, AB, value, None)
                plain.refused(self, InvalidRule, call, AB, occurs("a"), value)
        for value in plain.WRONG_LOGS:
            plain.refused(self, InvalidLog, holds, AB, occurs("a"), value)
        for value in plain.OTHERS + plain.NUMBERS + ((), ONCE, occurs("a")):
            plain.refused(self, InvalidOperation, rule_for, value)


class SetsTest(unittest.TestCase):

    def test_against_all_short_logs(self):
        for rule in RULES:
            logs = plain.unchanged(self, rule_logs, AB, rule)
            judge = plain.unchanged(self, rule_judge, AB, rule)
            self.assertEqual(judge, least_judge(judge))
            for log in plain.all_logs(AB, 5):
                self.assertEqual(log in logs, plain_holds(rule, log))
                self.assertEqual(verdict_of(judge, log), "yes" if plain_holds(rule, log) else "no")

    def test_numbers(self):
        # [12.2]
        for rule in RULES:
            many = number(rule_judge(AB, rule))
            self.assertLessEqual(many, len(set(plain_patterns(rule)) - {()}))
            if rule[0] in ("and", "or"):
                self.assertLessEqual(many, sum(number(rule_judge(AB, part)) for part in rule[1:]))

    def test_alike_logs(self):
        for rule in RULES[:20]:
            most = max(len(pattern) for pattern in plain_patterns(rule))
            for log in plain.all_logs(AB, 4):
                for other in plain.all_logs(AB, 4)[::5]:
                    if is_alike(log, other, most):
                        self.assertEqual(plain_holds(rule, log), plain_holds(rule, other))

    def test_limits(self):
        def both(many, more):
            return ("and", occurs("a" * many), occurs("b" * more))

        # together there are (many + 1) * (more + 1) stands, and as many states
        self.assertEqual(len(rule_logs(AB, both(9, 19))), 200)
        self.assertEqual(plain.refused(self, TooMany, rule_logs, AB, both(2, 66)).limit, 200)
        self.assertEqual(len(rule_judge(AB, both(3, 9))[1]), 40)
        self.assertEqual(plain.refused(self, TooMany, rule_judge, AB, ("occurs", ("a",) * 40)).limit, 40)
        self.assertEqual(len(rule_ladder(AB, both(9, 19)).rungs[0]), 200)
        for call in (rule_ladder, normal):
            self.assertEqual(plain.refused(self, TooMany, call, AB, both(2, 66)).limit, 200)

    def test_stands(self):
        three = ("or",) + tuple(("and", occurs(one), ("not", occurs(one))) for one in ("a" * 24, "b" * 24, "c" * 7))
        self.assertEqual(rule_logs(ABC, three), Logs.nothing(ABC))
        self.assertEqual(first_unlike(ABC, three, three), None)
        # 25 * 25 * 8 stands are allowed, one part more is not
        for call in RULE_CALLS[1:]:
            call(ABC, three)
            more = three + (occurs("c" * 8),)
            self.assertEqual(plain.refused(self, TooMany, call, ABC, more).limit, 5000)
        # ahead of the sizes of what they tell
        large = ("and",) + tuple(occurs(letter * 20) for letter in "abc")
        for call in RULE_CALLS[1:]:
            self.assertEqual(plain.refused(self, TooMany, call, ABC, large).limit, 5000)
        # for two rules together
        one = ("and", occurs("a" * 70), ("not", occurs("a" * 70)))
        other = ("and", occurs("b" * 70), ("not", occurs("b" * 70)))
        for call in (first_unlike, implies):
            self.assertEqual(plain.refused(self, TooMany, call, AB, one, other).limit, 5000)
            call(AB, one, one)
        # equal patterns count once, and patterns that go together have few stands
        self.assertEqual(len(rule_logs(AB, ("and", occurs("a" * 199), occurs("a" * 199), occurs("a" * 100)))), 200)

    def test_first_unlike(self):
        source = random.Random(7)
        for rule in RULES:
            other = source.choice(RULES)
            found = plain.unchanged(self, first_unlike, AB, rule, other)
            logs = plain.all_logs(AB, 7)
            wanted = [log for log in logs if plain_holds(rule, log) != plain_holds(other, log)]
            self.assertEqual(found if found is None or len(found) < 8 else None, wanted[0] if wanted else None)
            self.assertIs(implies(AB, rule, other), rule_logs(AB, rule).is_within(rule_logs(AB, other)))
            self.assertIs(implies(AB, rule, ("or", rule, other)), True)
        full = ("occurs", FULL)
        self.assertEqual(first_unlike(AB, full, ("occurs", FULL[1:])), FULL[1:])
        both = ("and", occurs("a" * 190), occurs("b" * 11))
        self.assertEqual(plain.refused(self, TooMany, first_unlike, AB, both, ("not", ("occurs", ()))).limit, 200)
        self.assertFalse(implies(AB, both, ("not", ("occurs", ()))))


def plain_ladder(rule):
    """The ladder of a rule over a and b by the judge."""
    judge = rule_judge(AB, rule)
    first = verdict_of(judge, ())
    return least_ladder(judge, first, "no" if first == "yes" else "yes")


def plain_normal(ladder):
    """The normal rule by its definition."""
    tests = []
    for rung in ladder.rungs:
        parts = tuple(("occurs", log) for log in minimal(rung).listed(longest=200))
        tests.append(parts[0] if len(parts) == 1 else ("or",) + parts)
    if not tests:
        return ("occurs", ()) if ladder.first_answer == "yes" else ("not", ("occurs", ()))
    form = tests[-1]
    for test in tests[:-1][::-1]:
        form = ("and", test, ("not", form))
    return ("not", form) if ladder.first_answer == "yes" else form


class NormalTest(unittest.TestCase):

    def test_ladders(self):
        for rule in RULES:
            ladder = plain.unchanged(self, rule_ladder, AB, rule)
            self.assertEqual(ladder, plain_ladder(rule))
            self.assertEqual(ladder.first_answer, "yes" if plain_holds(rule, ()) else "no")
            self.assertTrue(is_least(rule_judge(AB, rule), ladder))
            for log in plain.all_logs(AB, 4):
                self.assertEqual(ladder(log), "yes" if plain_holds(rule, log) else "no")

    def test_normal_rules(self):
        source = random.Random(3)
        for rule in RULES:
            wanted = plain_normal(rule_ladder(AB, rule))
            if plain_depth(wanted) > 20 or len(plain_patterns(wanted)) > 40:
                plain.refused(self, TooMany, normal, AB, rule)
                continue
            found = plain.unchanged(self, normal, AB, rule)
            self.assertEqual(found, wanted)
            self.assertIsNone(first_unlike(AB, rule, found))
            self.assertEqual(normal(AB, found), found)
            self.assertEqual(rule_for(rule_logs(AB, rule)), found)
            other = source.choice(FEW)
            # two rules hold for the same logs exactly if their normal rules are equal
            self.assertEqual(normal(AB, other) == found, first_unlike(AB, other, rule) is None)

    def test_ordinary(self):
        self.assertEqual(normal(AB, occurs("a")), occurs("a"))
        self.assertEqual(normal(AB, ("not", occurs("a"))), ("not", occurs("a")))
        self.assertEqual(normal(AB, ("or", occurs("b"), occurs("a"))), ("or", occurs("a"), occurs("b")))
        self.assertEqual(normal(AB, ("and", occurs("b"), occurs("a"))), ("or", occurs("ab"), occurs("ba")))
        self.assertEqual(normal(AB, ("and", occurs("a"), ("not", occurs("a")))), ("not", ("occurs", ())))
        self.assertEqual(normal(AB, ("or", occurs("aa"), ("not", occurs("aa")))), ("occurs", ()))
        self.assertEqual(normal(AB, ("not", ("and", occurs("a"), ("not", occurs("aa"))))),
                         ("not", ("and", occurs("a"), ("not", occurs("aa")))))

    def test_patterns(self):
        # with a in it, and without one of three: there are as many minimal logs as ways to put them in order
        def of_length(letters, many):
            return ("or",) + tuple(("occurs", log) for log in plain.all_logs(letters, many) if len(log) == many)

        self.assertEqual(len(normal(AB, of_length(AB, 5))), 33)
        # 32 and 8 logs of two rungs, and one more
        second = ("and", of_length(AB, 3), ("not", of_length(AB, 5)))
        self.assertEqual(len(plain_patterns(normal(AB, second))), 40)
        third = rule_logs(AB, second) - above_of(AB, (("a",) * 5,)) | above_of(AB, (("a",) * 6,))
        self.assertEqual(plain.refused(self, TooMany, rule_for, third).limit, 40)
        letters = ("a", "b", "c", "d")
        many = ("and",) + tuple(occurs(letter) for letter in letters)
        self.assertEqual(len(normal(letters, many)), 25)
        more = ("and",) + tuple(occurs(letter) for letter in letters) + (occurs("aa"),)
        self.assertEqual(plain.refused(self, TooMany, normal, letters, more).limit, 40)

    def test_depth(self):
        def alternating(many):
            """Holds for logs with an odd number of a's, up to so many of them."""
            rule = occurs("a" * many)
            for at in range(many - 1, 0, -1):
                rule = ("and", occurs("a" * at), ("not", rule))
            return rule

        ten = alternating(10)
        self.assertEqual(plain_depth(ten), 19)
        self.assertEqual((normal(AB, ten), plain_depth(normal(AB, ("not", ten)))), (ten, 20))
        eleven = Logs((AB, tuple((min(at + 1, 11), at) for at in range(12)), (False, True) * 6))
        self.assertEqual(plain.refused(self, TooMany, rule_for, eleven).limit, 20)
        self.assertEqual(plain.refused(self, TooMany, rule_for, ~eleven).limit, 20)
        # the last test is an or, which is two deep
        last = ("or", occurs("a" * 10), occurs("b" + "a" * 9))
        for at in range(9, 1, -1):
            last = ("and", occurs("a" * at), ("not", last))
        rule = ("and", occurs("a"), ("not", last))
        self.assertEqual((plain_depth(rule), normal(AB, rule)), (20, rule))
        self.assertEqual(plain.refused(self, TooMany, normal, AB, ("or", ("not", occurs("a")), last)).limit, 20)
        # the patterns come ahead of the depth
        high = logs_with(chain_judge(40), "q")
        self.assertEqual(plain.refused(self, TooMany, rule_for, high).limit, 20)
        both = Logs((AB, tuple((min(at + 1, 11),) * 2 for at in range(12)), (False, True) * 6))
        self.assertEqual(plain.refused(self, TooMany, rule_for, both).limit, 40)


class RuleForTest(unittest.TestCase):

    def test_ordinary(self):
        self.assertEqual(rule_for(logs_with(ONCE, "yes")), ("and", occurs("a"), ("not", occurs("aa"))))
        self.assertEqual(rule_for(logs_with(TURNS, "yes")), ("and", occurs("a"), ("not", occurs("ab"))))
        self.assertEqual(rule_for(Logs.everything(AB)), ("occurs", ()))
        self.assertEqual(rule_for(Logs.nothing(AB)), ("not", ("occurs", ())))
        self.assertEqual(rule_for(Logs.listing(AB, ())), ("not", ("or", occurs("a"), occurs("b"))))

    def test_unlimited(self):
        for logs in (logs_with(LAST, "x"), logs_with(LAST, None) | logs_with(LAST, "y")):
            self.assertEqual(plain.refused(self, Unlimited, rule_for, logs).swing, Logs.everything(AB))
        for machine in plain.some_machines(9, 60, "ab", 4):
            logs = Logs(machine)
            judge = (machine[0], machine[1], tuple("yes" if one else "no" for one in machine[2]))
            if number(judge) is None:
                self.assertEqual(plain.refused(self, Unlimited, rule_for, logs).swing, greatest_swing(judge))
            else:
                self.assertIsInstance(rule_for(logs), tuple)

    def test_too_many(self):
        self.assertEqual(len(minimal(above_of(AB, (("a",) * 39,)))), 41)
        self.assertEqual(rule_for(above_of(AB, (("a",) * 39,))), ("occurs", ("a",) * 39))
        self.assertEqual(plain.refused(self, TooMany, rule_for, above_of(AB, (("a",) * 40,))).limit, 40)
        # the size comes ahead of Unlimited, and so do rounds of more than 200 states
        turns = Logs((("a",), tuple(((at + 1) % 41,) for at in range(41)), (True,) + (False,) * 40))
        self.assertEqual(plain.refused(self, TooMany, rule_for, turns).limit, 40)
        fewer = Logs((("a",), tuple(((at + 1) % 40,) for at in range(40)), (True,) + (False,) * 39))
        plain.refused(self, Unlimited, rule_for, fewer)

    def test_rounds(self):
        letters, rows, verdicts = WIDER
        logs = Logs((letters, rows, tuple(one == "x" for one in verdicts)))
        judge = (letters, rows, tuple("yes" if one == "x" else "no" for one in verdicts))
        try:
            number(judge)
        except TooMany:
            self.assertEqual(plain.refused(self, TooMany, rule_for, logs).limit, 200)
        else:
            with self.assertRaises(TooMany):
                rule_for(logs)

    def test_ladders_of_rules(self):
        for rule in FEW:
            ladder = rule_ladder(AB, rule)
            self.assertEqual(ladder, Ladder(AB, ladder.first_answer, ladder.other_answer, ladder.rungs))
            judge = ladder.as_judge()
            self.assertEqual(judge, rule_judge(AB, rule))


if __name__ == "__main__":
    unittest.main()
