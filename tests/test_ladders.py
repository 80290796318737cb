"""Ladders, the least ones of judges, and climbing them."""

import random
import unittest
from unittest import mock

import plain
from plain import AB, FREE, LAST, NO_LETTERS, ONCE, THREE, TURNS, label
from seldomflip.errors import (
    InvalidJudge, InvalidLadder, InvalidLetters, InvalidLog, InvalidOperation, TooMany, Unlimited)
from seldomflip.judges.judges import is_total, least_judge, logs_with, make_judge_by, verdict_of, verdicts_of
from seldomflip.sets.closures import above, above_of, minimal
from seldomflip.sets.logsets import Logs
from seldomflip.towers.ladders import Ladder, climb, first_wrong, is_least, least_ladder
from seldomflip.towers.swings import greatest_swing, is_swing, number
from seldomflip.towers.towers import height, is_tower
from test_towers import WIDE, WIDER, chain_judge, with_swing

SMALL = plain.some_machines(111, 70, "ab", 4, (None, "p", "q")) + plain.some_machines(112, 30, "a", 5, (None, "p", "q")) + (
    plain.some_machines(113, 20, "abc", 4, (None, "p", "q"))) + [FREE]
ENDING = [judge for judge in SMALL if number(judge) is not None]
A = Logs.sized(AB, least=1)
MORE_AS = tuple(above_of(AB, (("a",) * many,)) for many in range(1, 4))
NO_LADDERS = plain.OTHERS + plain.NUMBERS + plain.SETS + ((), ("a",), ONCE, (AB, "no", "yes", ()), plain.deep("a", 9))
# each one wrong as rungs over a and b
NO_RUNGS = plain.OTHERS + plain.NUMBERS + plain.SETS + (
    list(MORE_AS), (ONCE,), (None,), MORE_AS + (None,), (Logs.nothing(AB),), MORE_AS + (Logs.nothing(AB),), MORE_AS[::-1],
    (Logs.sized(AB, most=2),), (Logs.everything(("a",)),), (MORE_AS[0], Logs.everything(("a", "c"))), (MORE_AS,),
    (above_of(AB, (("a",),)), above_of(AB, (("b",),))), (MORE_AS[0] - MORE_AS[2],), (A,) * 201)
NO_LISTS = plain.OTHERS + plain.NUMBERS + plain.SETS + (
    (("a",),), [(("a",),)], ([("a",)],), ((("c",),),), (((("a",),),),), (None,), ((None,),), ((("a",),), "a"), ((plain.TOO_LONG,),))
NO_PAIRS = [(one, "yes") for one in plain.NO_NAMES] + [("no", one) for one in plain.NO_NAMES] + [("no", "no"), (None, None)]


def plain_rungs(judge, first, other):
    """The rung sets by their definition, or None if there is no end of them."""
    found = []
    last = Logs.everything(judge[0])
    wanted = other
    while number(judge) is not None or len(found) < 6:
        last = above(last & Logs((judge[0], judge[1], tuple(one == wanted for one in judge[2]))))
        if not last:
            return tuple(found)
        found.append(last)
        wanted = first if wanted == other else other
    return None


def pairs_for(judge):
    verdicts = verdicts_of(judge)
    return [(one, two) for one in verdicts + ("m",) for two in verdicts + ("n",)
            if one != two and set(verdicts) <= {one, two}]


def some_ladders(seed, letters, many):
    """Ladders with any rungs."""
    source = random.Random(seed)
    logs = plain.all_logs(letters, 3)[1:]
    found = []
    for _ in range(many):
        last = Logs.everything(letters)
        rungs = []
        for _ in range(source.randint(0, 4)):
            last = last & above_of(letters, tuple(source.sample(logs, min(len(logs), source.randint(1, 3)))))
            rungs.append(last)
        found.append(Ladder(letters, "p", "q", tuple(rungs)))
    return found


class LadderTest(unittest.TestCase):

    def test_ordinary(self):
        ladder = Ladder(AB, "no", "yes", MORE_AS)
        self.assertEqual((ladder.letters, ladder.first_answer, ladder.other_answer, ladder.rungs), (AB, "no", "yes", MORE_AS))
        self.assertEqual((len(ladder), str(ladder)), (3, "ladder from no to yes: 3 rungs"))
        self.assertEqual([ladder(("b", "a") * many) for many in range(5)], ["no", "yes", "no", "yes", "yes"])
        self.assertEqual([ladder.rung(("b", "a") * many) for many in range(5)], [0, 1, 2, 3, 3])
        other = ladder.exchanged()
        self.assertEqual((other.first_answer, other.other_answer, other.rungs, other.exchanged()), ("yes", "no", MORE_AS, ladder))
        self.assertEqual(Ladder.listing(AB, "no", "yes", ((("a",),), (("a", "a"),), (("a",) * 3, ("a",) * 4))), ladder)
        self.assertEqual(Ladder.listing(AB, "no", "yes", ()), Ladder(AB, "no", "yes", ()))

    def test_answers(self):
        for ladder in some_ladders(1, AB, 40) + some_ladders(2, ("a", "b", "c"), 10):
            judge = plain.unchanged(self, ladder.as_judge)
            self.assertEqual(judge, least_judge(judge))
            self.assertTrue(is_total(judge))
            for log in plain.all_logs(ladder.letters, 4):
                many = sum(log in rung for rung in ladder.rungs)
                self.assertEqual(ladder.rung(log), many)
                self.assertEqual(ladder(log), "q" if many % 2 else "p")
                self.assertEqual(label(judge, log), ladder(log))
                self.assertEqual(ladder.exchanged()(log), "p" if many % 2 else "q")
            # it flips at most once for each rung
            self.assertLessEqual(height(judge, ladder(())) - 1, len(ladder))

    def test_equality(self):
        ladder = Ladder(AB, "no", "yes", MORE_AS)
        self.assertTrue(ladder == Ladder(AB, "no", "yes", MORE_AS))
        for other in (Ladder(AB, "no", "maybe", MORE_AS), Ladder(AB, "maybe", "yes", MORE_AS), Ladder(AB, "no", "yes", MORE_AS[:2]),
                      Ladder(AB, "no", "yes", (A,) + MORE_AS[1:]), ladder.exchanged()) + NO_LADDERS:
            self.assertTrue(ladder != other)
        self.assertFalse(Ladder(AB, "no", "yes", ()) == Ladder(("a",), "no", "yes", ()))
        # equal rungs are two rungs
        self.assertFalse(Ladder(AB, "no", "yes", (A, A)) == Ladder(AB, "no", "yes", ()))
        self.assertEqual(Ladder(AB, "no", "yes", (A, A)).as_judge(), Ladder(AB, "no", "yes", ()).as_judge())

    def test_refuses(self):
        for value in NO_LETTERS:
            plain.refused(self, InvalidLetters, Ladder, value, "no", "no", None)
            plain.refused(self, InvalidLetters, Ladder.listing, value, "no", "no", None)
        for first, other in NO_PAIRS:
            plain.refused(self, InvalidLadder, Ladder, AB, first, other, ())
            plain.refused(self, InvalidLadder, Ladder.listing, AB, first, other, None)
        for value in NO_RUNGS:
            plain.refused(self, InvalidLadder, Ladder, AB, "no", "yes", value)
        for value in NO_LISTS:
            plain.refused(self, InvalidLog, Ladder.listing, AB, "no", "yes", value)
        for value in (((),), ((("a",),), ()), ((("a", "a"),), (("a",),)), ((("a",),), (("a", "b"), ("b",))), ((("a",),),) * 201):
            plain.refused(self, InvalidLadder, Ladder.listing, AB, "no", "yes", value)
        ladder = Ladder(AB, "no", "yes", MORE_AS)
        for value in plain.WRONG_LOGS:
            plain.refused(self, InvalidLog, ladder, value)
            plain.refused(self, InvalidLog, ladder.rung, value)

    def test_limits(self):
        lists = tuple((("a",) * many,) for many in range(1, 200))
        ladder = Ladder.listing(("a",), "no", "yes", lists + lists[-1:])
        self.assertEqual((len(ladder), ladder.rung(("a",) * 198), ladder.rung(("a",) * 200)), (200, 198, 200))
        self.assertEqual(Ladder(("a",), "no", "yes", ladder.rungs), ladder)
        self.assertEqual(plain.refused(self, TooMany, ladder.as_judge).limit, 40)
        plain.refused(self, InvalidLadder, Ladder, ("a",), "no", "yes", ladder.rungs + ladder.rungs[-1:])
        plain.refused(self, InvalidLadder, Ladder.listing, ("a",), "no", "yes", lists + lists[-1:] * 2)
        self.assertEqual(len(Ladder.listing(AB, "no", "yes", ((("a", "b") * 99 + ("a",),),)).rungs[0]), 200)
        wide = ((("a", "b") * 100,),)
        self.assertEqual(plain.refused(self, TooMany, Ladder.listing, AB, "no", "yes", wide).limit, 200)
        # what is no log comes ahead of what is no rung
        plain.refused(self, InvalidLog, Ladder.listing, AB, "no", "yes", ((), (("c",),)))
        plain.refused(self, InvalidLog, Ladder.listing, AB, "no", "yes", ((("a", "a"),), (("a",), ("c",))))
        # what is no rung comes ahead of the size
        plain.refused(self, InvalidLadder, Ladder.listing, AB, "no", "yes", wide + ((("a",),),))
        self.assertEqual(len(Ladder.listing(("a",), "no", "yes", lists[:39]).as_judge()[1]), 40)
        self.assertEqual(plain.refused(self, TooMany, Ladder.listing(("a",), "no", "yes", lists[:40]).as_judge).limit, 40)

    def test_small_judges_of_large_rungs(self):
        # the answer changes at a b without any a only
        many = above_of(AB, (("a",) * 150, ("a", "b"), ("b", "a")))
        ladder = Ladder(AB, "no", "yes", (many | above_of(AB, (("b",),)), many))
        self.assertEqual(len(ladder.as_judge()[1]), 3)
        self.assertEqual(len(Ladder(AB, "no", "yes", (many, many, A, A)[2:] + (many, many)).as_judge()[1]), 1)


class LeastLadderTest(unittest.TestCase):

    def test_by_definition(self):
        for judge in ENDING:
            for first, other in pairs_for(judge):
                ladder = plain.unchanged(self, least_ladder, judge, first, other)
                rungs = plain_rungs(judge, first, other)
                self.assertEqual(ladder, Ladder(judge[0], first, other, rungs))
                self.assertEqual(len(ladder), height(judge, other) if other in verdicts_of(judge) else 0)
                self.assertIsNone(first_wrong(judge, ladder))
                self.assertIs(is_least(judge, ladder), True)
            verdicts = verdicts_of(judge)
            if len(verdicts) == 2:
                self.assertEqual(number(judge), min(len(least_ladder(judge, *verdicts)), len(least_ladder(judge, *verdicts[::-1]))))

    def test_least_of_all_right_ones(self):
        for judge in ENDING:
            for ladder in some_ladders(7, judge[0], 12):
                if set(verdicts_of(judge)) <= {"p", "q"} and first_wrong(judge, ladder) is None:
                    least = least_ladder(judge, "p", "q")
                    self.assertGreaterEqual(len(ladder), len(least))
                    for rung, other in zip(least.rungs, ladder.rungs):
                        self.assertTrue(rung.is_within(other))

    def test_is_least(self):
        for judge in SMALL:
            if len(verdicts_of(judge)) == 2:
                for ladder in some_ladders(3, judge[0], 8):
                    wanted = number(judge) is not None and plain_rungs(judge, "p", "q") == ladder.rungs
                    self.assertEqual(is_least(judge, ladder), wanted)
        steps = least_ladder(ONCE, "no", "yes")
        self.assertFalse(is_least(ONCE, Ladder(AB, "no", "yes", steps.rungs[:1])))
        self.assertFalse(is_least(ONCE, Ladder(AB, "no", "yes", steps.rungs + steps.rungs[-1:])))
        self.assertFalse(is_least(ONCE, Ladder(AB, "no", "yes", (Logs.everything(AB),) + steps.rungs[1:])))
        self.assertFalse(is_least(ONCE, steps.exchanged()))
        self.assertTrue(is_least(FREE, Ladder(AB, "m", "n", ())))
        # no ladder is the least one where there is no number, and no error is raised
        self.assertFalse(is_least(LAST, Ladder(AB, "x", "y", (Logs.everything(AB),) * 200)))
        self.assertFalse(is_least(LAST, Ladder(AB, "x", "y", (above_of(AB, (("b",),)), above_of(AB, (("b", "a"),))))))

    def test_edges(self):
        self.assertEqual(str(least_ladder(FREE, "m", "n")), "ladder from m to n: 0 rungs")
        one = (AB, ((1, 0), (1, 1)), (None, "no"))
        self.assertEqual(least_ladder(one, "no", "yes").rungs, ())
        self.assertEqual(least_ladder(one, "yes", "no").rungs, (above_of(AB, (("a",),)),))
        high = chain_judge(40)
        ladder = least_ladder(high, "p", "q")
        self.assertEqual((len(ladder), len(ladder.rungs[-1])), (39, 40))
        self.assertEqual(len(least_ladder(high, "q", "p")), 40)

    def test_can_flip_when_nothing_forces_it(self):
        # [11.3]
        judge = make_judge_by(AB, {"yes": Logs.listing(AB, ("a",)), "no": Logs.listing(AB, ("a", "b"))})
        ladder = least_ladder(judge, "no", "yes")
        self.assertEqual(ladder(("b", "a")), "yes")
        self.assertIsNone(first_wrong(judge, ladder))

    def test_refuses(self):
        steps = least_ladder(ONCE, "no", "yes")
        for judge in plain.NO_JUDGES[::5]:
            plain.refused(self, InvalidJudge, least_ladder, judge, None, None)
            for call in (is_least, first_wrong):
                plain.refused(self, InvalidJudge, call, judge, None)
            plain.refused(self, InvalidJudge, climb, judge, None, None)
        for first, other in NO_PAIRS + [("no", "maybe"), ("maybe", "yes"), ("p", "q")]:
            plain.refused(self, InvalidOperation, least_ladder, ONCE, first, other)
        for first, other in (("p", "q"), ("q", "r"), ("p", "z")):
            plain.refused(self, InvalidOperation, least_ladder, THREE, first, other)
            plain.refused(self, InvalidOperation, is_least, THREE, Ladder(THREE[0], first, other, ()))
        for value in NO_LADDERS:
            for call in (is_least, first_wrong):
                plain.refused(self, InvalidLadder, call, ONCE, value)
            plain.refused(self, InvalidLadder, climb, ONCE, value, None)
        foreign = Ladder(("a", "c"), "no", "yes", ())
        for call in (is_least, first_wrong):
            plain.refused(self, InvalidOperation, call, ONCE, foreign)
        plain.refused(self, InvalidOperation, is_least, ONCE, Ladder(AB, "no", "maybe", ()))
        self.assertIsNotNone(first_wrong(THREE, Ladder(THREE[0], "no", "maybe", ())))
        # letters that differ come behind the errors of all parameters
        for value in plain.WRONG_LOGS:
            plain.refused(self, InvalidLog, climb, ONCE, foreign, value)
            plain.refused(self, InvalidLog, climb, ONCE, steps, value)
        plain.refused(self, InvalidOperation, climb, ONCE, foreign, ("a",))
        plain.refused(self, InvalidOperation, climb, ONCE, steps.exchanged(), ("a",))
        plain.refused(self, InvalidOperation, climb, ONCE, Ladder(AB, "no", "yes", steps.rungs[:1]), ("a",))
        plain.refused(self, InvalidOperation, climb, LAST, Ladder(AB, "x", "y", ()), ("a",))
        # the same with other letters
        others = tuple(Logs((("a", "c"),) + rung.machine[1:]) for rung in steps.rungs)
        for call in (is_least, first_wrong, lambda *told: climb(*told, ("a",))):
            plain.refused(self, InvalidOperation, call, ONCE, Ladder(("a", "c"), "no", "yes", others))
        # the rung sets of two of three verdicts are no ladder of the judge
        rungs = plain_rungs(THREE, "p", "q")
        plain.refused(self, InvalidOperation, climb, THREE, Ladder(THREE[0], "p", "q", rungs), ("a",))

    def test_unlimited(self):
        for judge in SMALL:
            if number(judge) is None:
                self.assertIsNone(plain_rungs(judge, "p", "q"))
                self.assertEqual(plain.refused(self, Unlimited, least_ladder, judge, "p", "q").swing, greatest_swing(judge))
        plain.refused(self, InvalidOperation, least_ladder, LAST, "x", "z")

    def test_too_many(self):
        # a round counts, too, and it comes ahead of Unlimited
        names = verdicts_of(WIDER)
        self.assertEqual(plain.refused(self, TooMany, least_ladder, WIDER, *names).limit, 200)
        endless = with_swing(WIDER)
        self.assertTrue(is_swing(endless, Logs((endless[0], ((1, 1, 2, 1), (1, 1, 2, 2), (2, 2, 2, 2)), (True, True, False)))))
        self.assertEqual(plain.refused(self, TooMany, least_ladder, endless, *names).limit, 200)
        with mock.patch("seldomflip.towers.climbing.MAX_STATES", 3):
            self.assertEqual(plain.refused(self, TooMany, least_ladder, chain_judge(4), "p", "q").limit, 3)
            self.assertEqual(len(least_ladder(chain_judge(3), "p", "q")), 2)
        # its rounds are small enough, but a rung set has 841 states
        self.assertIsNotNone(number(WIDE))
        self.assertEqual(plain.refused(self, TooMany, least_ladder, WIDE, *names).limit, 200)

    def test_five_verdicts(self):
        judge = plain.tail_judge(("p", "q", "r", "s", "t"), 4)
        plain.refused(self, InvalidOperation, least_ladder, judge, "p", "q")


class FirstWrongTest(unittest.TestCase):

    def test_against_all_short_logs(self):
        for at, judge in enumerate(SMALL):
            for ladder in some_ladders(at, judge[0], 4):
                found = plain.unchanged(self, first_wrong, judge, ladder)
                wrong = [log for log in plain.all_logs(judge[0], 5)
                         if verdict_of(judge, log) is not None and verdict_of(judge, log) != ladder(log)]
                if wrong:
                    self.assertEqual(found, wrong[0])
                elif found is not None:
                    self.assertGreater(len(found), 5)
                    self.assertNotIn(verdict_of(judge, found), (None, ladder(found)))

    def test_long(self):
        loop = (("a",), tuple(((at + 1) % 10,) for at in range(10)), (None,) * 9 + ("no",))
        limit = Ladder(("a",), "no", "yes", (above_of(("a",), (("a",) * 199,)),))
        self.assertEqual(first_wrong(loop, limit), ("a",) * 199)
        later = Ladder(("a",), "yes", "no", (above_of(("a",), (("a",),)), above_of(("a",), (("a",) * 199,))))
        self.assertEqual(first_wrong(loop, later), ("a",) * 199)
        far = (("a",), tuple(((at + 1) % 40,) for at in range(40)), (None,) * 39 + ("no",))
        self.assertEqual(first_wrong(far, limit), ("a",) * 199)
        late = (("a",), tuple(((at + 1) % 23,) for at in range(23)), (None,) * 5 + ("no",) + (None,) * 17)
        self.assertEqual(plain.refused(self, TooMany, first_wrong, late, limit).limit, 200)

    def test_other_names(self):
        self.assertEqual(first_wrong(ONCE, Ladder(AB, "maybe", "yes", ())), ())
        self.assertIsNone(first_wrong(FREE, Ladder(AB, "maybe", "yes", (A,))))


class ClimbTest(unittest.TestCase):

    def plain_climb(self, judge, ladder, log):
        found = ()
        for many in range(ladder.rung(log), 0, -1):
            verdict = ladder.other_answer if many % 2 else ladder.first_answer
            inside = Logs.everything(judge[0]) if many == 1 else ladder.rungs[many - 2]
            log = [one for one in plain.in_order(plain.patterns_of(log)) if verdict_of(judge, one) == verdict and one in inside][0]
            found = (log,) + found
        return found

    def test_against_all_patterns(self):
        source = random.Random(4)
        for judge in ENDING:
            for first, other in pairs_for(judge)[:3]:
                ladder = least_ladder(judge, first, other)
                for _ in range(4):
                    log = tuple(source.choice(judge[0]) for _ in range(source.randint(0, 8)))
                    tower = plain.unchanged(self, climb, judge, ladder, log)
                    self.assertEqual(tower, self.plain_climb(judge, ladder, log))
                    self.assertTrue(is_tower(judge, tower))
                    self.assertEqual(len(tower), ladder.rung(log))
                    if tower:
                        self.assertEqual(verdict_of(judge, tower[0]), other)
                        self.assertTrue(plain.fits(tower[-1], log))

    def test_edges(self):
        steps = least_ladder(TURNS, "no", "yes")
        self.assertEqual(climb(TURNS, steps, ()), ())
        self.assertEqual(climb(TURNS, steps, ("b", "b")), ())
        self.assertEqual(climb(TURNS, steps, ("b",) * 199 + ("a",)), (("a",),))
        high = chain_judge(40)
        self.assertEqual(len(climb(high, least_ladder(high, "q", "p"), ("a",) * 200)), 40)
        self.assertEqual(climb(FREE, Ladder(AB, "m", "n", ()), ("a",)), ())


class OwnTest(unittest.TestCase):

    def test_what_is_returned_gives_no_access(self):
        ladder = least_ladder(ONCE, "no", "yes")
        self.assertIsInstance(ladder.rungs, tuple)
        self.assertIsInstance(Ladder.listing(AB, "no", "yes", ((("a",),),)).rungs, tuple)
        self.assertEqual([minimal(one).first() for one in ladder.rungs], [("a",), ("a", "a")])
        self.assertEqual(logs_with(ladder.as_judge(), "yes"), logs_with(ONCE, "yes"))


if __name__ == "__main__":
    unittest.main()
