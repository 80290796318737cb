"""Histories, answers to them, and the keeping answerer."""

from seldomflip.base.checks import check_many, check_number, is_name
from seldomflip.base.logs import MAX_EVENTS, check_history_size, is_history
from seldomflip.base.ways import is_below
from seldomflip.errors import InvalidHistory, InvalidLog, InvalidOperation, UnknownName
from seldomflip.judges.judges import check_judge
from seldomflip.sets.machines import check_log_over, label_of

MAX_HISTORY = 200


def is_history_over(letters, value):
    """Whether the value is a history with 1 to 200 logs of these letters."""
    return is_history(value) and all([event in letters for event in value[-1]])


def check_history_over(letters, value):
    """Refuses what is no history of logs of these letters."""
    if not is_history_over(letters, value):
        raise InvalidHistory("a history is a tuple of 1 to 200 logs of the letters that grow from ()")


def check_name(value):
    """Refuses what is no name."""
    if not is_name(value):
        raise UnknownName(value)


def is_history_of(judge, value):
    """Whether the value is a history of the judge."""
    check_judge(judge)
    return is_history_over(judge[0], value)


def verdicts_along(judge, history):
    """The verdict of each log, None where it is free."""
    return [label_of(judge, log) for log in history]


def are_right(judge, history, value):
    """Whether the value is right answers to the history."""
    check_judge(judge)
    check_history_over(judge[0], history)
    if not isinstance(value, tuple) or len(value) != len(history) or not all([is_name(answer) for answer in value]):
        return False
    verdicts = verdicts_along(judge, history)
    return all([verdict is None or answer == verdict for answer, verdict in zip(value, verdicts)])


def flips_among(answers):
    """The number of neighbours that differ."""
    return len([1 for one, other in zip(answers, answers[1:]) if one != other])


def flips(answers):
    """The number of flips of a tuple of one or more names."""
    if not isinstance(answers, tuple) or answers == () or not all([is_name(answer) for answer in answers]):
        raise InvalidOperation("answers are a tuple of one or more names")
    return flips_among(answers)


def kept_answers(judge, history, first):
    """The keeping answers with this first answer."""
    found = []
    answer = first
    for verdict in verdicts_along(judge, history):
        answer = answer if verdict is None else verdict
        found.append(answer)
    return tuple(found)


def kept(judge, history, *, first):
    """The keeping answers to the history with this first answer."""
    check_judge(judge)
    check_history_over(judge[0], history)
    check_name(first)
    return kept_answers(judge, history, first)


def flip_logs(judge, history, *, first):
    """The logs at which the keeping answers with this first answer flip."""
    answers = kept(judge, history, first=first)
    return tuple([history[at] for at in range(1, len(history)) if answers[at] != answers[at - 1]])


def fewest_flips(judge, history, *, first=None):
    """The least number of flips of right answers with this answer to the first log, or with any."""
    check_judge(judge)
    check_history_over(judge[0], history)
    if first is not None:
        check_name(first)
        return flips_among(kept_answers(judge, history, first))
    return flips_among([verdict for verdict in verdicts_along(judge, history) if verdict is not None])


class Trial:
    """A block behind which a keeper is as it was ahead of it."""

    def __init__(self, keeper):
        self._keeper = keeper
        self._logs = ()
        self._answers = ()

    def __enter__(self):
        self._logs = self._keeper._logs
        self._answers = self._keeper._answers
        return self._keeper

    def __exit__(self, kind, value, trace):
        keeper = self._keeper
        keeper._logs = self._logs
        keeper._answers = self._answers


class Keeper:
    """Tells keeping answers log by log."""

    def __init__(self, judge, *, first):
        check_judge(judge)
        check_name(first)
        self._judge = judge
        # the logs behind the first one, and the answers to all of them
        self._logs = ()
        self._answers = kept_answers(judge, ((),), first)

    @property
    def judge(self):
        """The judge."""
        return self._judge

    @property
    def log(self):
        """The last log."""
        return self._logs[-1] if self._logs != () else ()

    @property
    def answer(self):
        """The last answer."""
        return self._answers[-1]

    @property
    def flips(self):
        """The number of flips so far."""
        return flips_among(self._answers)

    @property
    def history(self):
        """All logs so far."""
        return ((),) + self._logs

    @property
    def answers(self):
        """The answers to all logs so far."""
        return self._answers

    def _answer_to(self, log):
        """The answer to a log that can be told next."""
        check_log_over(self._judge[0], log)
        if not is_below(self.log, log):
            raise InvalidOperation("the last log does not occur in this one")
        check_history_size(len(self._logs) + 2)
        verdict = label_of(self._judge, log)
        return self.answer if verdict is None else verdict

    def __call__(self, log):
        """The answer that the log would get if it was told."""
        return self._answer_to(log)

    def tell(self, log):
        """Goes on to the log and returns its answer."""
        answer = self._answer_to(log)
        self._logs = self._logs + (log,)
        self._answers = self._answers + (answer,)
        return answer

    def put(self, place, letter):
        """Goes on to the last log with one event more, which then has this index, and returns the answer."""
        log = self.log
        check_number(place, 0, len(log))
        if letter not in self._judge[0]:
            raise UnknownName(letter)
        if len(log) == MAX_EVENTS:
            raise InvalidLog("the log has 200 events already")
        return self.tell(log[:place] + (letter,) + log[place:])

    def back(self, many=1):
        """Takes back the last logs, so many of them, and returns how many are left behind the first one."""
        check_many(many, len(self._logs))
        left = len(self._logs) - many
        self._logs = self._logs[:left]
        self._answers = self._answers[:left + 1]
        return left

    def trial(self):
        """A block that gives the keeper; behind it the history is as it was."""
        return Trial(self)

    def during(self, logs, call):
        """What the call returns for the keeper once the logs of the tuple are told; they are then taken back."""
        if not isinstance(logs, tuple):
            raise InvalidOperation("a tuple of logs is needed")
        with self.trial() as one:
            for log in logs:
                one.tell(log)
            return call(one)

    def branch(self):
        """An independent keeper in the same state."""
        other = Keeper(self._judge, first=self._answers[0])
        other._logs = self._logs
        other._answers = self._answers
        return other

    def __len__(self):
        return len(self._logs)

    def __bool__(self):
        return bool(flips_among(self._answers) > 0)

    def __contains__(self, value):
        return value in ((),) + self._logs

    def __eq__(self, other):
        return (isinstance(other, Keeper) and self._judge == other._judge and self._logs == other._logs
                and self._answers == other._answers)

    def __str__(self):
        return f"keeper at {len(self.log)} events, {self.flips} flips, answer {self.answer}"
