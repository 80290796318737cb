"""Judges, which tell the verdicts of logs."""

from seldomflip.base.checks import is_name
from seldomflip.base.logs import check_letters, is_letters
from seldomflip.errors import InvalidJudge, InvalidOperation, UnknownName
from seldomflip.sets.logsets import Logs, check_set
from seldomflip.sets.machines import (
    are_rows, are_same_pairs, check_letters_of, check_log_over, label_of, least_of, parting_of, parts, same_pairs,
    state_of)
from seldomflip.sets.tables import check_size, paired, reached, smallest_table

MAX_STATES = 40
MAX_VERDICTS = 5


def different_verdicts(labels):
    """The different verdicts among labels, ascending."""
    return tuple(sorted(set([label for label in labels if label is not None])))


def is_judge(value):
    """Whether the value is a judge."""
    if not isinstance(value, tuple) or len(value) != 3:
        return False
    letters, rows, verdicts = value
    if not is_letters(letters) or not are_rows(letters, rows, MAX_STATES):
        return False
    if not isinstance(verdicts, tuple) or len(verdicts) != len(rows):
        return False
    if not all([verdict is None or is_name(verdict) for verdict in verdicts]):
        return False
    return len(different_verdicts(verdicts)) <= MAX_VERDICTS


def check_judge(value):
    """Refuses what is no judge."""
    if not is_judge(value):
        raise InvalidJudge("a judge is a tuple of letters, rows of next states and verdicts")


def check_judges(judge, other):
    """Refuses what are no judges with the same letters."""
    check_judge(judge)
    check_judge(other)
    check_letters_of(judge, other)


def verdicts_in(judge):
    """The verdicts that some log has, ascending."""
    _, rows, verdicts = judge
    return different_verdicts([verdicts[state] for state in reached(rows, 0)])


def check_verdict(judge, verdict):
    """Refuses what is no verdict of the judge."""
    if verdict not in verdicts_in(judge):
        raise UnknownName(verdict)


def judge_from(letters, rows, labels):
    """The least judge of a table whose states are all reached."""
    check_size(len(different_verdicts(labels)), MAX_VERDICTS)
    found, verdicts = smallest_table(rows, labels, 0, MAX_STATES)
    return letters, found, verdicts


def judge_with(judge, labels):
    """The least judge with other labels at the states of the judge."""
    letters, rows, _ = judge
    check_size(len(verdicts_in((letters, rows, labels))), MAX_VERDICTS)
    found, verdicts = smallest_table(rows, labels, 0, MAX_STATES)
    return letters, found, verdicts


def check_sets(letters, value):
    """Refuses what is no dict from names to sets over these letters, of which no two have a log in common."""
    if not isinstance(value, dict):
        raise InvalidOperation("a dict of sets of logs is needed")
    for name in value:
        if not is_name(name) or not isinstance(value[name], Logs) or value[name].letters != letters:
            raise InvalidOperation("names and sets of logs over the letters are needed")
    names = sorted(value)
    for at, name in enumerate(names):
        free = ~value[name]
        for other in names[at + 1:]:
            if not value[other].is_within(free):
                raise InvalidOperation("two sets have a log in common")


def make_judge(letters, **sets):
    """The judge that gives each log of a set the name of its keyword."""
    return make_judge_by(letters, sets)


def make_judge_by(letters, sets):
    """The judge that gives each log of a set its name in the dict."""
    check_letters(letters)
    check_sets(letters, sets)
    names = [name for name in sorted(sets) if sets[name]]
    check_size(len(names), MAX_VERDICTS)
    rows = ((0,) * len(letters),)
    labels = (None,)
    for name in names:
        _, others, good = sets[name].machine
        pairs, table = paired(rows, others)
        # with more sets there are never fewer states
        rows, labels = smallest_table(table, [name if good[two] else labels[one] for one, two in pairs], 0, MAX_STATES)
    return letters, rows, labels


def verdict_of(judge, log):
    """The verdict of the log, or None."""
    check_judge(judge)
    check_log_over(judge[0], log)
    return label_of(judge, log)


def verdicts_of(judge):
    """The verdicts that some log has, ascending."""
    check_judge(judge)
    return verdicts_in(judge)


def logs_of(judge, verdict):
    """The set of the logs with this verdict; with None, of the free ones."""
    letters, rows, verdicts = judge
    machine = least_of((letters, rows, tuple([one == verdict for one in verdicts])))
    return Logs(machine)


def logs_with(judge, verdict):
    """The set of the logs with this verdict; with None, of the free ones."""
    check_judge(judge)
    if verdict is not None:
        check_verdict(judge, verdict)
    return logs_of(judge, verdict)


def least_judge(judge):
    """The least judge that is the same."""
    check_judge(judge)
    return least_of(judge)


def is_total(judge):
    """Whether no log is free."""
    check_judge(judge)
    _, rows, verdicts = judge
    return all([verdicts[state] is not None for state in reached(rows, 0)])


def behind(judge, log):
    """The judge that gives each log the verdict of what was before with it behind."""
    check_judge(judge)
    letters, rows, verdicts = judge
    check_log_over(letters, log)
    found, labels = smallest_table(rows, verdicts, state_of(judge, log), MAX_STATES)
    return letters, found, labels


def mapped(judge, **names):
    """The judge with other verdicts, passed as keywords from the old ones to the new ones."""
    return mapped_by(judge, names)


def mapped_by(judge, names):
    """The judge with other verdicts, told by a dict from the old ones to the new ones."""
    check_judge(judge)
    if not isinstance(names, dict):
        raise InvalidOperation("a dict from verdicts to verdicts is needed")
    for name in names:
        if not is_name(name) or not (names[name] is None or is_name(names[name])):
            raise InvalidOperation("verdicts are names, or None for logs that become free")
    for name in sorted(names):
        check_verdict(judge, name)
    return judge_with(judge, [names.get(verdict, verdict) for verdict in judge[2]])


def filled(judge, name):
    """The judge that gives all free logs this verdict."""
    check_judge(judge)
    if not is_name(name):
        raise InvalidOperation("a verdict is a name")
    return judge_with(judge, [name if verdict is None else verdict for verdict in judge[2]])


def freed(judge, logs):
    """The judge for which all logs of the set are free, too."""
    check_judge(judge)
    check_set(logs)
    check_letters_of(judge, logs.machine)
    letters, rows, verdicts = judge
    _, others, good = logs.machine
    pairs, table = paired(rows, others)
    return judge_from(letters, table, [None if good[two] else verdicts[one] for one, two in pairs])


def label_pairs(judge, other):
    """The rows of the pairs of states that logs reach, and the pairs of their labels."""
    _, rows, verdicts = judge
    _, others, other_verdicts = other
    pairs, table = paired(rows, others)
    return table, [(verdicts[one], other_verdicts[two]) for one, two in pairs]


def joined(judge, other):
    """The judge by which a log has each verdict that it has by one of the two."""
    check_judges(judge, other)
    table, labels = label_pairs(judge, other)
    if any([one is not None and two is not None and one != two for one, two in labels]):
        raise InvalidOperation("a log has two different verdicts")
    return judge_from(judge[0], table, [two if one is None else one for one, two in labels])


def agreed(judge, other):
    """The judge by which a log has the verdict that it has by both."""
    check_judges(judge, other)
    table, labels = label_pairs(judge, other)
    return judge_from(judge[0], table, [one if one == two else None for one, two in labels])


def parting_log(judge, other):
    """The first log on which the judges differ, or None."""
    check_judges(judge, other)
    return parting_of(judge, other)


def judge_paper(judge, other):
    """A judge paper of the judges."""
    check_judges(judge, other)
    log = parting_of(judge, other)
    return ("same", same_pairs(judge, other)) if log is None else ("unlike", log)


def is_judge_paper(judge, other, value):
    """Whether the value is a judge paper of the judges."""
    check_judges(judge, other)
    if not isinstance(value, tuple) or len(value) != 2:
        return False
    if value[0] == "same":
        return are_same_pairs(judge, other, value[1])
    return value[0] == "unlike" and parts(judge, other, value[1])
