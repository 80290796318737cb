"""Rules about patterns, and the sets, judges and ladders that they tell."""

from seldomflip.base.logs import check_events, check_letters
from seldomflip.base.ways import in_order, is_below
from seldomflip.errors import InvalidRule, TooMany, Unlimited
from seldomflip.judges.judges import MAX_STATES, judge_from
from seldomflip.rules.stands import patterns_in, rules_table, worth_of
from seldomflip.sets.logsets import Logs, check_set
from seldomflip.sets.machines import check_log_over, log_of
from seldomflip.sets.tables import check_size, first_path, smallest_table
from seldomflip.sets.unions import least_outside
from seldomflip.towers.ladders import ladder_between
from seldomflip.towers.swings import number_in
from seldomflip.towers.towers import greatest_of, rounds_of

MAX_PATTERNS = 40
MAX_DEPTH = 20
MAX_STANDS = 5000
MAX_SIZE = 200


def all_patterns(letters, value):
    """The patterns of a rule, equal ones each time, or None if the value is none."""
    return patterns_in(letters, value, MAX_DEPTH, MAX_PATTERNS)


def check_rule(letters, value):
    """Refuses what is no rule over the letters."""
    if all_patterns(letters, value) is None:
        raise InvalidRule("a rule of at most 40 patterns, nested at most 20 deep, is needed")


def is_rule(letters, value):
    """Whether the value is a rule over the letters."""
    check_letters(letters)
    return all_patterns(letters, value) is not None


def holds(letters, rule, log):
    """Whether the rule holds for the log."""
    check_letters(letters)
    check_rule(letters, rule)
    check_log_over(letters, log)
    return worth_of(rule, {pattern: is_below(pattern, log) for pattern in all_patterns(letters, rule)})


def patterns_of(letters, rule):
    """The different patterns of the rule, in the order of logs."""
    check_letters(letters)
    check_rule(letters, rule)
    return in_order(all_patterns(letters, rule))


def table_of(letters, rule):
    """The rows of the stands for a rule, and for each stand whether the rule holds."""
    check_letters(letters)
    check_rule(letters, rule)
    rows, worths = rules_table(letters, (rule,), in_order(all_patterns(letters, rule)), MAX_STANDS)
    return rows, [worth[0] for worth in worths]


def table_of_both(letters, rule, other):
    """The rows of the stands for two rules, and for each stand whether the rules hold."""
    check_letters(letters)
    check_rule(letters, rule)
    check_rule(letters, other)
    logs = in_order(all_patterns(letters, rule) + all_patterns(letters, other))
    return rules_table(letters, (rule, other), logs, MAX_STANDS)


def rule_logs(letters, rule):
    """The set of the logs for which the rule holds."""
    rows, goods = table_of(letters, rule)
    return Logs((letters,) + smallest_table(rows, goods, 0, MAX_SIZE))


def answers_of(goods):
    """The verdicts of states for which a rule holds, and of others."""
    return ["yes" if is_good else "no" for is_good in goods]


def rule_judge(letters, rule):
    """The least judge of the rule."""
    rows, goods = table_of(letters, rule)
    return judge_from(letters, rows, answers_of(goods))


def ladder_from(letters, rows, goods):
    """The least ladder of the judge of a table that begins with the answer of ()."""
    labels = answers_of(goods)
    return ladder_between(letters, rows, labels, labels[0], "no" if labels[0] == "yes" else "yes")


def rule_ladder(letters, rule):
    """The ladder of the rule."""
    rows, goods = table_of(letters, rule)
    small, ends = smallest_table(rows, goods, 0, len(rows))
    return ladder_from(letters, small, ends)


def minimal_logs(rung):
    """The minimal logs of a rung, in order; more of them than a rule has patterns are refused."""
    letters, rows, goods = rung.machine
    paths = least_outside((letters, rows, [not is_good for is_good in goods]), MAX_PATTERNS)
    if paths is None:
        raise TooMany(MAX_PATTERNS)
    return in_order([log_of(letters, path) for path in paths])


def rung_test(logs):
    """The test of a rung with these minimal logs, and how deep it is nested."""
    if len(logs) == 1:
        return ("occurs", logs[0]), 1
    return ("or",) + tuple([("occurs", log) for log in logs]), 2


def except_form(rungs):
    """The except form from the first one of some rungs on, and how deep it is nested."""
    logs = [minimal_logs(rung) for rung in rungs]
    check_size(sum([len(some) for some in logs]), MAX_PATTERNS)
    form, levels = rung_test(logs[-1])
    for some in logs[:-1][::-1]:
        test, deep = rung_test(some)
        form = ("and", test, ("not", form))
        levels = 1 + max(deep, levels + 1)
    return form, levels


def normal_of(ladder):
    """The normal rule of the rules with this ladder."""
    begins_with_yes = ladder.first_answer == "yes"
    if len(ladder) == 0:
        return ("occurs", ()) if begins_with_yes else ("not", ("occurs", ()))
    form, levels = except_form(ladder.rungs)
    check_size(levels + 1 if begins_with_yes else levels, MAX_DEPTH)
    return ("not", form) if begins_with_yes else form


def normal(letters, rule):
    """The normal rule of all rules that hold for the same logs."""
    return normal_of(rule_ladder(letters, rule))


def rule_for(logs):
    """The normal rule of the rules that hold for just the logs of the set."""
    check_set(logs)
    check_size(len(logs), MAX_STATES)
    letters, rows, goods = logs.machine
    judge = (letters, rows, tuple(answers_of(goods)))
    found = rounds_of(judge)
    if number_in(found) is None:
        swing = greatest_of(judge, found)
        raise Unlimited(swing)
    return normal_of(ladder_from(letters, rows, goods))


def first_unlike(letters, rule, other):
    """The first log for which exactly one of the rules holds, or None."""
    rows, worths = table_of_both(letters, rule, other)

    def step(state, at):
        return rows[state][at]

    def is_unlike(state):
        return worths[state][0] != worths[state][1]

    path = first_path(0, len(letters), step, is_unlike)
    if path is None:
        return None
    check_events(len(path))
    return log_of(letters, path)


def implies(letters, rule, other):
    """Whether the other rule holds for each log for which the rule holds."""
    _, worths = table_of_both(letters, rule, other)
    return (True, False) not in worths
