"""Ladders: answers that are told by sets closed upward, each within the one before it."""

from seldomflip.base.checks import is_name
from seldomflip.base.logs import check_events, check_letters, is_above_some
from seldomflip.base.ways import next_places
from seldomflip.errors import InvalidLadder, InvalidLog, InvalidOperation, Unlimited
from seldomflip.judges.judges import MAX_STATES, check_judge, verdicts_in
from seldomflip.sets.closures import above_of, is_closed_up
from seldomflip.sets.logsets import Logs, check_logs_over
from seldomflip.sets.machines import check_log_over, label_of, least_of, log_of
from seldomflip.sets.tables import first_path, smallest_table
from seldomflip.towers.climbing import all_logs_table, are_rung_tables, rung_tables
from seldomflip.towers.swings import number_in
from seldomflip.towers.towers import greatest_of, rounds_of

MAX_RUNGS = 200


def are_two_names(first, other):
    """Whether the values are two different names."""
    return is_name(first) and is_name(other) and first != other


def check_two_names(first, other):
    """Refuses what are not two different names."""
    if not are_two_names(first, other):
        raise InvalidLadder("the answers are two different names")


def is_rung(letters, value):
    """Whether the value is a set of logs of the letters that can be a rung."""
    return isinstance(value, Logs) and value.letters == letters and bool(value) and is_closed_up(value)


def check_rungs(letters, value):
    """Refuses what are no rungs."""
    if not isinstance(value, tuple) or len(value) > MAX_RUNGS or not all([is_rung(letters, rung) for rung in value]):
        raise InvalidLadder("rungs are a tuple of at most 200 sets that are not empty and closed upward")
    for rung, following in zip(value, value[1:]):
        if not following.is_within(rung):
            raise InvalidLadder("each rung is within the one before it")


def check_lists(letters, value):
    """Refuses what is no tuple of tuples of logs of the letters."""
    if not isinstance(value, tuple):
        raise InvalidLog("a tuple of tuples of logs is needed")
    for logs in value:
        check_logs_over(letters, logs)


def check_listed_rungs(lists):
    """Refuses lists of logs such that the logs above them are no rungs."""
    if len(lists) > MAX_RUNGS or () in lists:
        raise InvalidLadder("there are at most 200 rungs, and none is empty")
    for logs, following in zip(lists, lists[1:]):
        if not all([is_above_some(log, logs) for log in following]):
            raise InvalidLadder("each rung is within the one before it")


def without_doubles(rungs):
    """The rungs without those that are equal to their neighbours, two by two, which change no answer."""
    found = []
    for rung in rungs:
        if found and found[-1] == rung:
            found.pop()
        else:
            found.append(rung)
    return found


def ladder_of(letters, first, other, rungs):
    """The ladder with these rungs, which are known to be right."""
    ladder = Ladder(letters, first, other, ())
    ladder._rungs = rungs
    return ladder


class Ladder:
    """Two answers, and sets of logs at which one follows the other in turn."""

    def __init__(self, letters, first, other, rungs):
        check_letters(letters)
        check_two_names(first, other)
        check_rungs(letters, rungs)
        self._letters = letters
        self._first = first
        self._other = other
        self._rungs = rungs

    @classmethod
    def listing(cls, letters, first, other, lists):
        """The ladder whose rungs are the logs above those of each tuple."""
        check_letters(letters)
        check_two_names(first, other)
        check_lists(letters, lists)
        check_listed_rungs(lists)
        ladder = cls(letters, first, other, ())
        ladder._rungs = tuple([above_of(letters, logs) for logs in lists])
        return ladder

    @property
    def letters(self):
        """The letters of the logs."""
        return self._letters

    @property
    def first_answer(self):
        """The answer ahead of all rungs."""
        return self._first

    @property
    def other_answer(self):
        """The answer behind the first rung."""
        return self._other

    @property
    def rungs(self):
        """The sets, each within the one before it."""
        return self._rungs

    def as_judge(self):
        """The least judge whose verdicts are the answers."""
        machines = [rung.machine for rung in without_doubles(self._rungs)]
        states = [(0,) * len(machines)]
        known = {states[0]: 0}
        rows = []
        while len(rows) < len(states):
            row = []
            for at in range(len(self._letters)):
                following = tuple([machine[1][state][at] for machine, state in zip(machines, states[len(rows)])])
                if following not in known:
                    known[following] = len(states)
                    states.append(following)
                row.append(known[following])
            rows.append(row)
        labels = []
        for state in states:
            many = len([1 for machine, one in zip(machines, state) if machine[2][one]])
            labels.append(self._other if many & 1 else self._first)
        found, verdicts = smallest_table(rows, labels, 0, MAX_STATES)
        return self._letters, found, verdicts

    def rung(self, log):
        """The number of rungs that contain the log."""
        check_log_over(self._letters, log)
        many = 0
        while many < len(self._rungs) and label_of(self._rungs[many].machine, log):
            many += 1
        return many

    def __call__(self, log):
        """The answer of the log."""
        return self._other if self.rung(log) & 1 else self._first

    def exchanged(self):
        """The ladder with the answers exchanged."""
        return ladder_of(self._letters, self._other, self._first, self._rungs)

    def __len__(self):
        return len(self._rungs)

    def __eq__(self, other):
        return (isinstance(other, Ladder) and self._letters == other._letters and self._first == other._first
                and self._other == other._other and self._rungs == other._rungs)

    def __str__(self):
        return f"ladder from {self._first} to {self._other}: {len(self._rungs)} rungs"


def check_ladder(value):
    """Refuses what is no ladder."""
    if not isinstance(value, Ladder):
        raise InvalidLadder("a ladder is needed")


def check_ladder_of(judge, ladder):
    """Refuses a ladder with other letters than the judge."""
    if ladder.letters != judge[0]:
        raise InvalidOperation("the letters differ")


def check_answers(judge, first, other):
    """Refuses what are not two different names with all verdicts of the judge among them."""
    if not are_two_names(first, other) or not all([verdict in (first, other) for verdict in verdicts_in(judge)]):
        raise InvalidOperation("two different names with all verdicts of the judge among them are needed")


def ladder_between(letters, rows, labels, first, other):
    """The least ladder of a table that has one."""
    tables = rung_tables(rows, labels, first, other)
    return ladder_of(letters, first, other, tuple([Logs((letters,) + table) for table in tables]))


def least_ladder(judge, first, other):
    """The least ladder from one answer to the other."""
    check_judge(judge)
    check_answers(judge, first, other)
    found = rounds_of(judge)
    if number_in(found) is None:
        swing = greatest_of(judge, found)
        raise Unlimited(swing)
    letters, rows, labels = least_of(judge)
    return ladder_between(letters, rows, labels, first, other)


def is_least_of(judge, ladder):
    """Whether the ladder is the least one of the judge from its first answer to its other one."""
    _, rows, labels = least_of(judge)
    tables = [rung.machine[1:] for rung in ladder.rungs]
    return are_rung_tables(rows, labels, ladder.first_answer, ladder.other_answer, tables)


def is_least(judge, ladder):
    """Whether the ladder is the least one from its first answer to its other one."""
    check_judge(judge)
    check_ladder(ladder)
    check_ladder_of(judge, ladder)
    check_answers(judge, ladder.first_answer, ladder.other_answer)
    return is_least_of(judge, ladder)


def wrong_path(judge, answer, inside, outside):
    """The path of the first log that is in one set, not in the other, closed upward, and has another verdict."""
    _, rows, labels = judge
    others, goods = inside
    thirds, third_goods = outside

    def step(states, at):
        one, other, third = states
        following = thirds[third][at]
        return None if third_goods[following] else (rows[one][at], others[other][at], following)

    def is_wrong(states):
        return goods[states[1]] and labels[states[0]] not in (None, answer)

    return None if third_goods[0] else first_path((0, 0, 0), len(rows[0]), step, is_wrong)


def first_wrong(judge, ladder):
    """The first log that is not free and gets another answer from the ladder, or None."""
    check_judge(judge)
    check_ladder(ladder)
    check_ladder_of(judge, ladder)
    small = least_of(judge)
    width = len(judge[0])
    tables = [all_logs_table(width)] + [rung.machine[1:] for rung in ladder.rungs]
    outside = tables[1:] + [(((0,) * width,), (False,))]
    found = []
    for many, table in enumerate(tables):
        answer = ladder.other_answer if many & 1 else ladder.first_answer
        path = wrong_path(small, answer, table, outside[many])
        if path is not None:
            found.append((len(path), path))
    if not found:
        return None
    length, path = min(found)
    check_events(length)
    return log_of(judge[0], path)


def first_in_rung(judge, verdict, table, log):
    """The first log below the log that has the verdict and is in the set; there must be one."""
    letters, rows, labels = judge
    others, goods = table
    places = next_places(log, letters)

    def step(config, at):
        one, other, begin = config
        place = places[begin][at]
        return None if place == len(log) else (rows[one][at], others[other][at], place + 1)

    def is_found(config):
        return labels[config[0]] == verdict and goods[config[1]]

    path = first_path((0, 0, 0), len(letters), step, is_found)
    return log_of(letters, path)


def climb(judge, ladder, log):
    """The tower that forces the flips up to the rung of the log, each log, from the last one on, the first possible."""
    check_judge(judge)
    check_ladder(ladder)
    check_log_over(judge[0], log)
    check_ladder_of(judge, ladder)
    check_answers(judge, ladder.first_answer, ladder.other_answer)
    if not is_least_of(judge, ladder):
        raise InvalidOperation("this is not the least ladder")
    tables = [all_logs_table(len(judge[0]))] + [rung.machine[1:] for rung in ladder.rungs]
    found = []
    for many in range(ladder.rung(log), 0, -1):
        verdict = ladder.other_answer if many & 1 else ladder.first_answer
        log = first_in_rung(judge, verdict, tables[many - 1], log)
        found.append(log)
    return tuple(found[::-1])
