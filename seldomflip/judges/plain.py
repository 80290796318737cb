"""Answers without memory: plain answerers, tables of logs, and knots."""

from seldomflip.base.checks import check_number
from seldomflip.base.ways import in_order
from seldomflip.errors import InvalidLog, InvalidOperation, Unlimited
from seldomflip.judges.judges import check_judge, is_judge, is_total, verdicts_in
from seldomflip.judges.knots import first_filling, flips_of_row, logs_below
from seldomflip.sets.machines import is_log_over, label_of, least_of
from seldomflip.sets.tables import check_size, paired
from seldomflip.towers.towers import greatest_of, rounds_of, times_inside, tower_of

MAX_LOGS = 12
MAX_FILLINGS = 1000
MAX_BOUND = 60


def is_plain(judge, value):
    """Whether the value is a right plain answerer whose verdicts are verdicts of the judge."""
    check_judge(judge)
    if not is_judge(value) or value[0] != judge[0] or not is_total(value):
        return False
    verdicts = verdicts_in(judge)
    if not all([verdict in verdicts for verdict in verdicts_in(value)]):
        return False
    pairs, _ = paired(judge[1], value[1])
    return all([judge[2][one] in (None, value[2][other]) for one, other in pairs])


def check_answerer(value):
    """Refuses what is no total judge."""
    check_judge(value)
    if not is_total(value):
        raise InvalidOperation("a total judge is needed")


def flips_less_one(answerer, found):
    """The worst flips of a total judge with these rounds, or None."""
    many = times_inside(found, label_of(answerer, ()), ())
    return None if many is None else many - 1


def worst_flips(answerer):
    """The most flips of the answers of a total judge on any history, or None."""
    check_answerer(answerer)
    return flips_less_one(answerer, rounds_of(answerer))


def worst_history(answerer):
    """A history on which the answers of a total judge flip as often as they can."""
    check_answerer(answerer)
    found = rounds_of(answerer)
    many = flips_less_one(answerer, found)
    if many is None:
        swing = greatest_of(answerer, found)
        raise Unlimited(swing)
    # the first log of the tower is (), as this has the verdict itself
    return tower_of(answerer, found, label_of(answerer, ()), many + 1, ())


def check_verdicts(verdicts):
    """Refuses to choose among no verdicts."""
    if verdicts == ():
        raise InvalidOperation("the judge has no verdicts")


def fillings(judge):
    """Yields the least judges that arise when each free state of the least judge gets a verdict, in order."""
    check_judge(judge)
    letters, rows, labels = least_of(judge)
    verdicts = verdicts_in(judge)
    check_verdicts(verdicts)
    free = [state for state, label in enumerate(labels) if label is None]
    many = 1
    for _ in free:
        many = many * len(verdicts)
        check_size(many, MAX_FILLINGS)
    for index in range(many):
        filled = list(labels)
        left = index
        for state in free[::-1]:
            filled[state] = verdicts[left % len(verdicts)]
            left = left // len(verdicts)
        yield least_of((letters, rows, tuple(filled)))


def best_filling(judge):
    """The first filling with the fewest worst flips."""
    best = None
    least = None
    for answerer in fillings(judge):
        many = worst_flips(answerer)
        if best is None or (many is not None and (least is None or many < least)):
            best = answerer
            least = many
    return best


def is_log_tuple(letters, value):
    """Whether the value is a tuple of at most 12 different logs of the letters."""
    if not isinstance(value, tuple) or len(value) > MAX_LOGS:
        return False
    return all([is_log_over(letters, log) for log in value]) and len(set(value)) == len(value)


def check_log_tuple(letters, value):
    """Refuses what is no tuple of at most 12 different logs of the letters."""
    if not is_log_tuple(letters, value):
        raise InvalidLog("a tuple of at most 12 different logs is needed")


def is_table_of(judge, logs, value):
    """Whether the value is a table of the logs."""
    if not isinstance(value, dict) or len(value) != len(logs) or not all([log in value for log in logs]):
        return False
    verdicts = verdicts_in(judge)
    return all([value[log] in verdicts and label_of(judge, log) in (None, value[log]) for log in logs])


def is_table(judge, logs, value):
    """Whether the value is a table of the logs."""
    check_judge(judge)
    check_log_tuple(judge[0], logs)
    return is_table_of(judge, logs, value)


def table_flips(judge, logs, table):
    """The flips of a table of the logs."""
    check_judge(judge)
    check_log_tuple(judge[0], logs)
    if not is_table_of(judge, logs, table):
        raise InvalidOperation("this is no table of the logs")
    row = in_order(logs)
    return max([0] + flips_of_row(logs_below(row), [table[log] for log in row]))


def choices_of(judge, row, verdicts):
    """For each log of a row the places of the verdicts that it may have."""
    found = [label_of(judge, log) for log in row]
    return [list(range(len(verdicts))) if label is None else [verdicts.index(label)] for label in found]


def least_table(judge, logs):
    """A table of the logs with the fewest flips, the first one by the verdicts in the order of logs."""
    check_judge(judge)
    check_log_tuple(judge[0], logs)
    verdicts = verdicts_in(judge)
    if logs == ():
        return {}
    check_verdicts(verdicts)
    row = in_order(logs)
    below = logs_below(row)
    choices = choices_of(judge, row, verdicts)
    most = 0
    found = first_filling(below, choices, len(verdicts), most)
    while found is None:
        most += 1
        found = first_filling(below, choices, len(verdicts), most)
    return {log: verdicts[place] for log, place in sorted(list(zip(row, found)))}


def is_knot_of(judge, logs, most):
    """Whether each table of the logs has more flips than that."""
    row = in_order(logs)
    verdicts = verdicts_in(judge)
    return first_filling(logs_below(row), choices_of(judge, row, verdicts), len(verdicts), most) is None


def is_knot(judge, value, *, most):
    """Whether the value is a knot: each table of it has more flips than that."""
    check_judge(judge)
    check_number(most, 0, MAX_BOUND)
    return is_log_tuple(judge[0], value) and is_knot_of(judge, value, most)


def shrunk_knot(judge, logs, *, most):
    """The rest of a knot behind each log is left out, the last one first, without which it still is one."""
    check_judge(judge)
    check_log_tuple(judge[0], logs)
    check_number(most, 0, MAX_BOUND)
    if not is_knot_of(judge, logs, most):
        raise InvalidOperation("this is no knot")
    found = logs
    for log in logs[::-1]:
        rest = tuple([one for one in found if one != log])
        if is_knot_of(judge, rest, most):
            found = rest
    return found
