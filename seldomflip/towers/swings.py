"""Swings, numbers, and rivals that force flips."""

from seldomflip.base.checks import check_many, check_number, is_name
from seldomflip.errors import InvalidOperation, UnknownName
from seldomflip.judges.histories import flips_among
from seldomflip.judges.judges import check_judge, verdicts_in
from seldomflip.sets.machines import check_log_over, label_of, least_of, log_of, path_of
from seldomflip.sets.tables import state_after
from seldomflip.towers.swinging import are_covers, is_swing_of
from seldomflip.towers.towers import (
    greatest_of, is_tower_of, next_path, path_inside, rounds_of, sets_of, times_inside, tower_of)

MAX_PLAY = 60


def is_swing(judge, value):
    """Whether the value is a swing of the judge."""
    check_judge(judge)
    return is_swing_of(judge, value)


def greatest_swing(judge):
    """The greatest swing, or the empty set if there is none."""
    check_judge(judge)
    return greatest_of(judge, rounds_of(judge))


def walk(judge, swing, *, start=()):
    """Yields a tower without end in the swing, each log of which is the first possible one."""
    check_judge(judge)
    if not is_swing_of(judge, swing):
        raise InvalidOperation("this is no swing of the judge")
    check_log_over(judge[0], start)
    if not label_of(swing.machine, start):
        raise InvalidOperation("the log is not in the swing")
    small = least_of(judge)
    letters, rows, labels = small
    verdicts = verdicts_in(small)
    table = swing.machine[1:]
    allowed = verdicts
    low = path_of(letters, start)
    while True:
        low = path_inside(small, low, [(allowed, table)])
        yield log_of(letters, low)
        last = labels[state_after(rows, 0, low)]
        allowed = [verdict for verdict in verdicts if verdict != last]


def flips_above(found, answer, path):
    """The greatest height of towers above a path, by the rounds, with another verdict than the answer in front.

    None if there is no greatest one.
    """
    most = 0
    for verdict in found[0]:
        if verdict != answer:
            times = times_inside(found, verdict, path)
            if times is None:
                return None
            most = max(most, times)
    return most


def number_in(found):
    """The number of the judge with these rounds, or None."""
    many = [times_inside(found, verdict, ()) for verdict in found[0]]
    if None in many:
        return None
    # the verdict that is left out is one with the greatest height
    return sorted(many)[-2] if len(many) > 1 else 0


def number(judge):
    """The number of the judge, or None."""
    check_judge(judge)
    return number_in(rounds_of(judge))


def firsts_in(found):
    """The best first answers of the judge with these rounds."""
    least = number_in(found)
    return tuple([verdict for verdict in found[0] if least is not None and flips_above(found, verdict, ()) == least])


def best_firsts(judge):
    """The best first answers; () without verdicts, and without a number."""
    check_judge(judge)
    return firsts_in(rounds_of(judge))


def number_paper(judge):
    """A number paper of the judge."""
    check_judge(judge)
    found = rounds_of(judge)
    if number_in(found) is None:
        return ("swing", greatest_of(judge, found))
    towers = {verdict: tower_of(judge, found, verdict, times_inside(found, verdict, ()), ()) for verdict in found[0]}
    return ("number", towers, tuple([sets_of(judge, tables) for tables in found]))


def are_towers(judge, value):
    """Whether the value is a dict from the verdicts to towers that begin with them."""
    verdicts = verdicts_in(judge)
    if not isinstance(value, dict) or len(value) != len(verdicts):
        return False
    for verdict in verdicts:
        if verdict not in value or not is_tower_of(judge, value[verdict]) or value[verdict] == ():
            return False
        if label_of(judge, value[verdict][0]) != verdict:
            return False
    return True


def is_number_paper(judge, value):
    """Whether the value is a number paper of the judge."""
    check_judge(judge)
    if not isinstance(value, tuple) or len(value) not in (2, 3):
        return False
    if value[0] == "swing":
        return len(value) == 2 and is_swing_of(judge, value[1])
    if value[0] != "number" or len(value) != 3 or not are_towers(judge, value[1]) or not are_covers(judge, value[2]):
        return False
    _, towers, covers = value
    for verdict in towers:
        many = len(towers[verdict])
        if many >= len(covers) or covers[many][verdict]:
            return False
    return True


def left_text(left):
    """How many flips are left, in words; None is for no bound."""
    return "endless" if left is None else f"{left} left"


class Rival:
    """Plays against an answerer, log by log."""

    def __init__(self, judge):
        check_judge(judge)
        self._judge = least_of(judge)
        self._found = rounds_of(judge)
        # the logs behind the first one, the answers to all but the last, and the flips left at all of them
        self._logs = ()
        self._answers = ()
        self._lefts = (number_in(self._found),)

    @property
    def history(self):
        """All logs so far."""
        return ((),) + self._logs

    @property
    def answers(self):
        """The answers to all logs but the last one."""
        return self._answers

    @property
    def left(self):
        """The number of flips that can still be forced once the last log is answered, or None."""
        return self._lefts[-1]

    def _is_right(self, answer):
        """Whether the value is a right answer to the last log."""
        return is_name(answer) and label_of(self._judge, self.history[-1]) in (None, answer)

    def next(self, answer):
        """Takes the answer to the last log, and returns the next one, or None if no flip can be forced."""
        if not is_name(answer):
            raise UnknownName(answer)
        if not self._is_right(answer):
            raise InvalidOperation("the last log has another verdict")
        letters, rows, labels = self._judge
        low = path_of(letters, self.history[-1])
        many = flips_above(self._found, answer, low)
        if many == 0:
            return None
        allowed = [verdict for verdict in self._found[0] if verdict != answer]
        if many is None:
            tables = self._found[-1]
            path = path_inside(self._judge, low, [(allowed, tables[name]) for name in tables])
        else:
            path = next_path(self._judge, self._found, low, allowed, many)
        log = log_of(letters, path)
        self._logs = self._logs + (log,)
        self._answers = self._answers + (answer,)
        self._lefts = self._lefts + (flips_above(self._found, labels[state_after(rows, 0, path)], path),)
        return log

    def _played(self, answers, most):
        """The history and the answers behind a play, which goes on from what is there."""
        before = self._answers
        told = ()
        while True:
            answer = answers(self.history)
            told = told + (answer,)
            if not self._is_right(answer) or flips_among(told) == most or self.next(answer) is None:
                return self.history, before + told

    def play(self, answers, *, most=10):
        """Asks the function for answers and goes on, again and again; then the history is as before."""
        check_number(most, 0, MAX_PLAY)
        logs = self._logs
        answered = self._answers
        lefts = self._lefts
        try:
            return self._played(answers, most)
        finally:
            self._logs = logs
            self._answers = answered
            self._lefts = lefts

    def back(self, many=1):
        """Takes back the last logs with their answers, and returns how many logs are left behind the first one."""
        check_many(many, len(self._logs))
        kept = len(self._logs) - many
        self._logs = self._logs[:kept]
        self._answers = self._answers[:kept]
        self._lefts = self._lefts[:kept + 1]
        return kept

    def __len__(self):
        return len(self._logs)

    def __str__(self):
        return f"rival at {len(self._logs)} logs, {left_text(self._lefts[-1])}"
