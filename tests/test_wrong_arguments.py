"""Each parameter of the functions for sets and judges: the error for wrong values, alone and with other wrong ones."""

import unittest

import plain
from plain import AB, EVEN, LAST, ONCE, PLAIN
from seldomflip.errors import (
    InvalidChain, InvalidHistory, InvalidJudge, InvalidLadder, InvalidLetters, InvalidLog, InvalidMachine, InvalidNumber,
    InvalidOperation, InvalidRule, ParseError, UnknownName)
from seldomflip.judges import histories, judges
from seldomflip.judges import plain as answerers
from seldomflip.late import closing, monitors
from seldomflip.rules import rules
from seldomflip.sets import chains, closures, machines
from seldomflip.sets.logsets import Logs
from seldomflip.text import formats, shell
from seldomflip.towers import ladders, swings, towers
from test_plain_answers import NO_TUPLES as NO_LOG_TUPLES
from test_plain_answers import PAIRS
from test_formats import NO_TEXTS
from test_ladders import NO_LADDERS, NO_RUNGS
from test_monitors import NO_LETTERS_HERE, NO_TIMES
from test_shell import NO_COMMANDS
from test_rules import NO_RULES, occurs

NO_SETS = plain.OTHERS + plain.NUMBERS + ((), ("a",), EVEN, ONCE, plain.deep((), 9))
NO_TUPLES = plain.OTHERS + plain.NUMBERS + plain.SETS + ([("a",)], {(): ()})
NO_CHAIN = plain.OTHERS + plain.NUMBERS + plain.SETS + (
    ("a",), ("maybe", "a"), (("maybe", "A"),), (("any", ()),), (("any", ("b", "a")),), [("maybe", "a")], (("maybe", "a"),) * 401)
NO_BOOLS = plain.NUMBERS + plain.SETS + (None, "True", "", (), (True,), [], {}, plain.deep(True, 9))
NO_NAMES = tuple(value for value in plain.NO_NAMES if value is not None)

MACHINE = (InvalidMachine, None, plain.NO_MACHINES)
LOG = (InvalidLog, None, plain.WRONG_LOGS)
ANY_LOG = (InvalidLog, None, plain.NO_LOGS + plain.SETS)
STATE = (InvalidNumber, "value", plain.NO_NUMBERS + plain.SETS + (2, -1, 10 ** 59, -(10 ** 59)))
UP_TO_200 = (InvalidNumber, "value", plain.NO_NUMBERS + plain.SETS + (201, -1, 10 ** 59, -(10 ** 59)))
AT_LEAST_0 = (InvalidNumber, "value", plain.NO_NUMBERS + plain.SETS + (-1, -(10 ** 59)))
AT_LEAST_1 = (InvalidNumber, "value", plain.NO_NUMBERS + plain.SETS + (0, -1, -(10 ** 59)))
FLAG = (InvalidOperation, None, NO_BOOLS)
LETTERS = (InvalidLetters, None, plain.NO_LETTERS)
SET = (InvalidOperation, None, NO_SETS)
OTHER_SET = (InvalidOperation, None, NO_SETS + (Logs.everything(("a",)), Logs.everything(("a", "c"))))
LOG_TUPLE = (InvalidLog, None, NO_TUPLES + tuple((("a",), value) for value in plain.WRONG_LOGS))
CHAIN = (InvalidChain, None, NO_CHAIN)
CHAINS = (InvalidChain, None, NO_TUPLES + tuple(((), value) for value in NO_CHAIN + ((("maybe", "c"),),)))
JUDGE = (InvalidJudge, None, plain.NO_JUDGES)
VERDICT = (UnknownName, "name", NO_NAMES + (None, "maybe"))
FIRST_VERDICT = (UnknownName, "name", NO_NAMES + ("maybe",))
VERDICT_OR_FREE = (UnknownName, "name", NO_NAMES + ("maybe",))
FIRST = (UnknownName, "name", NO_NAMES + (None,))
FIRST_OR_NONE = (UnknownName, "name", NO_NAMES)
NAME = (InvalidOperation, None, NO_NAMES + (None,))
SETS = (InvalidOperation, None, plain.OTHERS[:11] + plain.OTHERS[13:] + plain.NUMBERS + plain.SETS + (
    {"a": "b"}, {(): Logs(EVEN)}, {"A": Logs(EVEN)}, {"no": EVEN}, {"no": None}, {None: Logs(EVEN)}, {"no": Logs.everything(("a",))},
    {"no": Logs(EVEN), "yes": Logs(EVEN)}, {"no": Logs(EVEN), plain.LONG_NAME: Logs.nothing(AB)}))
NAMES = (InvalidOperation, None, plain.OTHERS[:11] + plain.OTHERS[13:] + plain.NUMBERS + plain.SETS + (
    {"no": "A"}, {"no": 1}, {"no": ()}, {1: "no"}, {None: "no"}, {(): "no"}, {"no": "yes", "yes": True}, {"no": plain.LONG_NAME}))
HISTORY = (InvalidHistory, None, plain.OTHERS + plain.NUMBERS + plain.SETS + (
    (), ("a",), ((), ("b",), ("a",)), (("a",),), ((), ["a"]), [()], ((), ("c",)), ((), None), ((),) * 201, ((), plain.TOO_LONG)))
ANSWERS = (InvalidOperation, None, plain.OTHERS + plain.NUMBERS + plain.SETS + ((), ("A",), ("no", 1), ["no"], ("no", None)))

NO_PLAIN = (InvalidOperation, None, (LAST, plain.FREE, plain.THREE))
SWING = (InvalidOperation, None, NO_SETS + (Logs.nothing(AB), Logs.sized(AB, most=1), Logs.everything(("a",))))
RULE = (InvalidRule, None, NO_RULES)
LADDER = (InvalidLadder, None, NO_LADDERS)
UP_TO_60 = (InvalidNumber, "value", plain.NO_NUMBERS + plain.SETS + (61, -1, 10 ** 59, -(10 ** 59)))
FEW_LOGS = (InvalidLog, None, NO_LOG_TUPLES)
TABLE = (InvalidOperation, None, plain.OTHERS + plain.NUMBERS + plain.SETS + ((), {(): "no"}, {("a",): "no"}))

MOMENT = ((None, ONCE, JUDGE), (None, ("b",), LOG), (None, ("a",), LOG))
TIME = (InvalidNumber, "value", NO_TIMES)
LETTER = (UnknownName, "name", NO_LETTERS_HERE)
TEXT = (ParseError, None, NO_TEXTS[:-16] + ("", " ", "~" * 300, "a..b", "()", "a.B"))
MONITOR = monitors.Monitor(ONCE)
MONITOR.tell_all(((1, "b"), (1, "b")))

AS = Logs.sized(AB, least=1)
DOWN = Logs.sized(AB, most=1)
LONG = (("maybe", "a"), ("any", AB))
PAST = ((), ("a",))


def call_first(call):
    """A function that asks for the first value of a generator."""
    return lambda *values, **named: next(call(*values, **named))


# a call, then its parameters: the keyword or None, a right value, and what is wrong
CALLS = (
    [(call, (None, EVEN, MACHINE)) for call in (
        machines.is_least, machines.least, machines.turned, machines.first_logs, machines.alike_states, Logs)]
    + [(call, (None, EVEN, MACHINE), (None, PLAIN, MACHINE)) for call in (machines.parting_log, machines.comparison)]
    + [(call, (None, logs, SET)) for call, logs in (
        (closures.above, AS), (closures.below, AS), (closures.is_closed_up, AS), (closures.is_closed_down, AS),
        (closures.inside_up, AS), (closures.inside_down, AS), (closures.minimal, AS), (closures.maximal, AS),
        (chains.chains_of, DOWN))]
    + [(call, (None, AS, SET), (None, ("a",), LOG)) for call in (closures.first_over, closures.first_under)]
    + [(call, (None, AB, LETTERS), (None, (("a",),), LOG_TUPLE)) for call in (
        closures.above_of, closures.below_of, chains.avoiding, Logs.listing_of)]
    + [(call, (None, LONG, CHAIN), (None, LONG[:1], CHAIN)) for call in (chains.is_within, chains.first_outside)]
    + [(call, (None, LONG, CHAIN), (None, ("a",), ANY_LOG)) for call in (chains.is_in_chain, chains.rest_of)]
    + [(call, (None, AB, LETTERS), (None, (LONG, ()), CHAINS)) for call in (chains.list_logs, chains.bars)]
    + [(call, (None, AB, LETTERS)) for call in (Logs.everything, Logs.nothing)]
    + [(call, (None, ONCE, JUDGE)) for call in (
        judges.verdicts_of, judges.least_judge, judges.is_total, call_first(towers.rounds), towers.heights)]
    + [(call, (None, ONCE, JUDGE), (None, ("a",), LOG)) for call in (judges.verdict_of, judges.behind, towers.reach)]
    + [(call, (None, ONCE, JUDGE), (None, ONCE, JUDGE)) for call in (
        judges.joined, judges.agreed, judges.parting_log, judges.judge_paper)]
    + [(call, (None, ONCE, JUDGE), (None, "no", VERDICT)) for call in (
        towers.height, towers.highest_tower, towers.height_paper)]
    + [(call, (None, ONCE, JUDGE), (None, PAST, HISTORY), ("first", "no", FIRST)) for call in (
        histories.kept, histories.flip_logs)]
    + [(machines.state_behind, (None, EVEN, MACHINE), (None, ("a",), LOG), ("begin", 1, STATE)),
       (machines.contains, (None, EVEN, MACHINE), (None, ("a",), LOG)),
       (machines.parting_states, (None, EVEN, MACHINE), (None, 0, STATE), (None, 1, STATE)),
       (machines.merged, (None, EVEN, MACHINE), (None, PLAIN, MACHINE), ("both", True, FLAG), ("first", True, FLAG),
        ("second", True, FLAG), ("neither", True, FLAG)),
       (machines.is_comparison, (None, EVEN, MACHINE), (None, PLAIN, MACHINE), (None, ("parted", ("a",)), None)),
       (Logs.listing, (None, AB, LETTERS), (None, ("a",), LOG), (None, (), LOG)),
       (Logs.sized, (None, AB, LETTERS), ("least", 1, AT_LEAST_0),
        ("most", 2, (InvalidNumber, "value", tuple(value for value in AT_LEAST_0[2] if value is not None)))),
       (AS.is_within, (None, DOWN, OTHER_SET)), (AS.__or__, (None, DOWN, OTHER_SET)), (AS.__and__, (None, DOWN, OTHER_SET)),
       (AS.__sub__, (None, DOWN, OTHER_SET)), (AS.__xor__, (None, DOWN, OTHER_SET)), (AS, (None, ("a",), LOG)),
       (call_first(AS.listed), ("longest", 1, UP_TO_200)), (AS.count_of, (None, 1, UP_TO_200)),
       (AS.log_at, (None, 1, AT_LEAST_0)), (AS.index_of, (None, ("a",), LOG)),
       (closures.closure_paper, (None, AS, SET), ("up", False, FLAG)),
       (closures.is_closure_paper, (None, AS, SET), (None, ("open", (), ()), None), ("up", False, FLAG)),
       (chains.is_chain, (None, AB, LETTERS), (None, LONG, None)), (chains.reduced, (None, LONG, CHAIN)),
       (chains.full_log, (None, LONG, CHAIN), (None, 3, UP_TO_200)), (chains.is_list_of, (None, DOWN, SET), (None, (), None)),
       (judges.make_judge_by, (None, AB, LETTERS), (None, {"no": Logs(EVEN)}, SETS)),
       (judges.make_judge, (None, AB, LETTERS), ("no", Logs(EVEN), OTHER_SET)),
       (judges.logs_with, (None, ONCE, JUDGE), (None, "no", VERDICT_OR_FREE)),
       (judges.mapped_by, (None, ONCE, JUDGE), (None, {"no": "yes"}, NAMES)),
       (judges.mapped, (None, ONCE, JUDGE), ("no", None, (InvalidOperation, None, NO_NAMES)),
        ("yes", "no", (InvalidOperation, None, NO_NAMES))),
       (judges.filled, (None, LAST, JUDGE), (None, "z", NAME)), (judges.freed, (None, ONCE, JUDGE), (None, DOWN, OTHER_SET)),
       (judges.is_judge_paper, (None, ONCE, JUDGE), (None, LAST, JUDGE), (None, ("unlike", ("a",)), None)),
       (histories.is_history_of, (None, ONCE, JUDGE), (None, PAST, None)),
       (histories.are_right, (None, ONCE, JUDGE), (None, PAST, HISTORY), (None, ("no", "yes"), None)),
       (histories.flips, (None, ("no", "yes"), ANSWERS)),
       (histories.fewest_flips, (None, ONCE, JUDGE), (None, PAST, HISTORY), ("first", "no", FIRST_OR_NONE)),
       (histories.Keeper, (None, ONCE, JUDGE), ("first", "no", FIRST)),
       (towers.is_tower, (None, ONCE, JUDGE), (None, (("a",),), None)),
       (towers.round_of, (None, ONCE, JUDGE), (None, "no", VERDICT), (None, 1, AT_LEAST_1)),
       (towers.tower_above, (None, ONCE, JUDGE), (None, "no", VERDICT), (None, 1, AT_LEAST_1), ("start", (), LOG)),
       (towers.is_height_paper, (None, ONCE, JUDGE), (None, "no", VERDICT), (None, ("height", (), ()), None))]
    + [(call, (None, ONCE, JUDGE)) for call in (
        swings.greatest_swing, swings.number, swings.best_firsts, swings.number_paper, lambda judge: str(swings.Rival(judge)), answerers.worst_flips,
        answerers.worst_history, call_first(answerers.fillings), answerers.best_filling)]
    + [(call, (None, ONCE, NO_PLAIN)) for call in (answerers.worst_flips, answerers.worst_history)]
    + [(call, (None, ONCE, JUDGE), (None, (), None)) for call in (
        swings.is_swing, swings.is_number_paper, answerers.is_plain)]
    + [(call, (None, AB, LETTERS), (None, occurs("ab"), RULE)) for call in (
        rules.patterns_of, rules.rule_logs, rules.rule_judge, rules.rule_ladder, rules.normal)]
    + [(call, (None, AB, LETTERS), (None, occurs("ab"), RULE), (None, occurs("b"), RULE)) for call in (
        rules.first_unlike, rules.implies)]
    + [(call, (None, ONCE, JUDGE), (None, ladders.least_ladder(ONCE, "no", "yes"), LADDER)) for call in (
        ladders.is_least, ladders.first_wrong)]
    + [(call,) + MOMENT + ((None, "yes", VERDICT),) for call in (
        closing.flips_left, closing.turning, closing.closing_paper)]
    + [(call_first(swings.walk), (None, LAST, JUDGE), (None, Logs.everything(AB), SWING), ("start", ("b",), LOG)),
       (ladders.climb, (None, ONCE, JUDGE), (None, ladders.least_ladder(ONCE, "no", "yes"), LADDER), (None, ("a",), LOG)),
       (ladders.least_ladder, (None, ONCE, JUDGE), (None, "no", NAME), (None, "yes", NAME)),
       (ladders.Ladder, (None, AB, LETTERS), (None, "no", (InvalidLadder, None, NO_NAMES + (None,))),
        (None, "yes", (InvalidLadder, None, NO_NAMES + (None, "no"))), (None, (), (InvalidLadder, None, NO_RUNGS))),
       (rules.is_rule, (None, AB, LETTERS), (None, (), None)), (rules.rule_for, (None, AS, SET)),
       (rules.holds, (None, AB, LETTERS), (None, occurs("ab"), RULE), (None, ("a",), LOG)),
       (answerers.is_table, (None, ONCE, JUDGE), (None, PAIRS[:3], FEW_LOGS), (None, {}, None)),
       (answerers.table_flips, (None, ONCE, JUDGE), (None, PAIRS[:2], FEW_LOGS), (None, {(): "no", ("a",): "yes"}, TABLE)),
       (answerers.least_table, (None, ONCE, JUDGE), (None, PAIRS[:3], FEW_LOGS)),
       (answerers.is_knot, (None, ONCE, JUDGE), (None, PAIRS[:2], None), ("most", 3, UP_TO_60)),
       (closing.possible,) + MOMENT, (closing.settled_logs, (None, ONCE, JUDGE), (None, "no", VERDICT)),
       (closing.is_closing_paper,) + MOMENT + ((None, "yes", VERDICT), (None, (), None)),
       (lambda judge, *, first: monitors.Monitor(judge, first=first), (None, ONCE, JUDGE), ("first", "no", FIRST_VERDICT)),
       (lambda *told, **named: MONITOR.branch().tell(*told, **named), (None, 1, TIME), (None, "a", LETTER),
        ("position", 2, (InvalidNumber, "value", plain.NO_NUMBERS[1:] + plain.SETS + (3, -1, 10 ** 59)))),
       (MONITOR, (None, 1, TIME), (None, "a", LETTER)), (lambda time: MONITOR.branch().close(time), (None, 1, TIME)),
       (lambda time: MONITOR[time], (None, 1, TIME)), (shell.Shell().run, (None, "names", (ParseError, None, NO_COMMANDS))),
       (formats.format_log, (None, ("x",), ANY_LOG)), (formats.parse_log, (None, AB, LETTERS), (None, "a", TEXT)),
       (formats.format_history, (None, (("x",),), (InvalidLog, None, tuple(((), log) for log in ANY_LOG[2])))),
       (formats.parse_history, (None, AB, LETTERS), (None, "a < b", TEXT)),
       (formats.format_machine, (None, EVEN, MACHINE)), (formats.parse_machine, (None, "letters a\n0: 0 +", TEXT)),
       (formats.format_judge, (None, ONCE, JUDGE)), (formats.parse_judge, (None, "letters a\n0: 0 no", TEXT)),
       (formats.format_chains, (None, AB, LETTERS), (None, (LONG, ()), CHAINS)),
       (formats.parse_chains, (None, AB, LETTERS), (None, "a? [a b]", TEXT)),
       (formats.format_ladder, (None, ladders.least_ladder(ONCE, "no", "yes"), LADDER)),
       (formats.parse_ladder, (None, AB, LETTERS), (None, "ladder no yes", TEXT)),
       (formats.format_rule, (None, AB, LETTERS), (None, occurs("ab"), RULE)),
       (formats.parse_rule, (None, AB, LETTERS), (None, "a & b", TEXT)),
       (answerers.shrunk_knot, (None, ONCE, JUDGE), (None, ((), ("a",), ("a", "a")), FEW_LOGS), ("most", 1, UP_TO_60))])


class WrongArgumentsTest(unittest.TestCase):

    def call_with(self, call, parameters, wrong):
        """Calls it with right values, but for those that are told by their places."""
        values, named = [], {}
        for at, (keyword, right, _) in enumerate(parameters):
            value = wrong.get(at, right)
            if keyword is None:
                values.append(value)
            else:
                named[keyword] = value
        return call, values, named

    def check(self, parameters, found, at, value):
        call, values, named = found
        error, attribute, _ = parameters[at][2]
        caught = plain.refused(self, error, call, *values, **named)
        if attribute is not None:
            self.assertEqual(getattr(caught, attribute), value)
            self.assertIs(type(getattr(caught, attribute)), type(value))

    def test_right_values(self):
        for call, *parameters in CALLS:
            _, values, named = self.call_with(call, parameters, {})
            plain.unchanged(self, call, *values, **named)

    def test_one_wrong_value(self):
        for call, *parameters in CALLS:
            for at, (_, _, wrong) in enumerate(parameters):
                for value in wrong[2] if wrong else ():
                    self.check(parameters, self.call_with(call, parameters, {at: value}), at, value)

    def test_several_wrong_values(self):
        for call, *parameters in CALLS:
            places = [at for at, (_, _, wrong) in enumerate(parameters) if wrong]
            for first in places:
                for value in parameters[first][2][2][::5]:
                    for second in places[places.index(first) + 1:]:
                        for other in parameters[second][2][2][::9]:
                            found = self.call_with(call, parameters, {first: value, second: other})
                            self.check(parameters, found, first, value)


if __name__ == "__main__":
    unittest.main()
