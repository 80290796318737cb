"""Letters, logs, how logs grow, and histories."""

from seldomflip.base.checks import check_number, is_ascending, is_name, is_whole
from seldomflip.base.ways import first_way, grown, in_order, insertions_of, is_below, last_way, shortest_above
from seldomflip.errors import InvalidHistory, InvalidLetters, InvalidLog, InvalidOperation, TooMany

MAX_EVENTS = 200
MAX_LETTERS = 4
MAX_HISTORY = 200


def is_any_log(value):
    """Whether the value is a log of any letters, with at most 200 events."""
    if not isinstance(value, tuple) or len(value) > MAX_EVENTS:
        return False
    return all([is_name(event) for event in value])


def check_letters(value):
    """Refuses what is no letters."""
    if not is_letters(value):
        raise InvalidLetters("letters are an ascending tuple of one to four letters")


def check_log(value):
    """Refuses what is no log of any letters."""
    if not is_any_log(value):
        raise InvalidLog("a log is a tuple of at most 200 letters")


def check_logs(value):
    """Refuses what is no tuple of logs of any letters."""
    if not isinstance(value, tuple):
        raise InvalidLog("a tuple of logs is needed")
    for log in value:
        check_log(log)


def check_events(many):
    """Refuses a result of more events than a log may have."""
    if many > MAX_EVENTS:
        raise TooMany(MAX_EVENTS)


def check_history_size(many):
    """Refuses a result of more logs than a history may have."""
    if many > MAX_HISTORY:
        raise TooMany(MAX_HISTORY)


def is_letters(value):
    """Whether the value is an ascending tuple of one to four letters."""
    if not isinstance(value, tuple) or not 1 <= len(value) <= MAX_LETTERS:
        return False
    return all([is_name(letter) for letter in value]) and is_ascending(value)


def make_letters(*names):
    """The letters with these names, which stand in any order and perhaps more than once."""
    for name in names:
        if not is_name(name):
            raise InvalidLetters("a letter is a string of one to eight characters a to z")
    letters = tuple(sorted(set(names)))
    check_letters(letters)
    return letters


def is_log(letters, value):
    """Whether the value is a log of these letters, with at most 200 events."""
    check_letters(letters)
    return is_any_log(value) and all([event in letters for event in value])


def sorted_logs(logs):
    """The different logs of a tuple, in the order of logs."""
    check_logs(logs)
    return in_order(logs)


def occurs(log, other):
    """Whether the first log occurs in the second one."""
    check_log(log)
    check_log(other)
    return is_below(log, other)


def first_places(log, other):
    """The first places of the first log in the second one, or None."""
    check_log(log)
    check_log(other)
    return first_way(log, other)


def last_places(log, other):
    """The last places of the first log in the second one, or None."""
    check_log(log)
    check_log(other)
    return last_way(log, other)


def first_above(log, other):
    """The first log above both."""
    check_log(log)
    check_log(other)
    found = shortest_above(log, other)
    check_events(len(found))
    return found


def growths(log, letters):
    """Yields the different logs that arise by putting in one of the letters, in order."""
    check_log(log)
    check_letters(letters)
    check_events(len(log) + 1)
    found = []
    for gap in range(len(log) + 1):
        for letter in letters:
            # ahead of an equal event the same log arises as behind it
            if log[gap:gap + 1] != (letter,):
                found.append(log[:gap] + (letter,) + log[gap:])
    yield from in_order(found)


def shrinkings(log):
    """Yields the different logs that arise by leaving out one event, in order."""
    check_log(log)
    yield from in_order([log[:at] + log[at + 1:] for at in range(len(log))])


def is_above_some(log, others):
    """Whether one of the others occurs in the log."""
    for other in others:
        if is_below(other, log):
            return True
    return False


def minimal_of(logs):
    """The different logs of a tuple in which no other one of them occurs, in order."""
    check_logs(logs)
    found = []
    for log in in_order(logs):
        # a log that occurs in this one is shorter, and a minimal one is below it
        if not is_above_some(log, found):
            found.append(log)
    return tuple(found)


def is_insertion(log, value):
    """Whether the value is an insertion into the log."""
    if not isinstance(value, tuple) or len(value) != 2:
        return False
    gap, letter = value
    return is_whole(gap) and 0 <= gap <= len(log) and is_name(letter)


class Growth:
    """How a log grows by insertions."""

    def __init__(self, log, *insertions):
        check_log(log)
        for value in insertions:
            if not is_insertion(log, value):
                raise InvalidOperation("an insertion is a pair of a gap of the log and a letter")
        check_events(len(log) + len(insertions))
        self._begin = log
        self._insertions = insertions
        self._end, self._kept = grown(log, insertions)

    @classmethod
    def between(cls, log, other):
        """The growth to the other log in which the old events stand at the first places."""
        check_log(log)
        check_log(other)
        way = first_way(log, other)
        if way is None:
            raise InvalidOperation("the log does not occur in the other one")
        insertions = insertions_of(other, way)
        return cls(log, *insertions)

    @property
    def begin(self):
        """The log that grows."""
        return self._begin

    @property
    def end(self):
        """The log behind the insertions."""
        return self._end

    @property
    def kept(self):
        """The way of the old events in the end."""
        return self._kept

    def __call__(self, position):
        """The position in the end of an event of the begin."""
        check_number(position, 0, len(self._begin) - 1)
        return self._kept[position]

    def origin(self, position):
        """The position in the begin of an event of the end, or None if it was put in."""
        check_number(position, 0, len(self._end) - 1)
        return self._kept.index(position) if position in self._kept else None

    def __add__(self, other):
        """This growth, and the other one behind it."""
        if not isinstance(other, Growth) or other._begin != self._end:
            raise InvalidOperation("no growth that begins with the end of the first one")
        kept = tuple([other._kept[at] for at in self._kept])
        insertions = insertions_of(other._end, kept)
        return Growth(self._begin, *insertions)

    def steps(self):
        """Yields growths with one insertion each that give this one together."""
        log = self._begin
        for at, event in enumerate(self._end):
            if at not in self._kept:
                # all events that stand ahead of this one in the end are there already
                step = Growth(log, (at, event))
                log = step.end
                yield step

    def __len__(self):
        return len(self._insertions)

    def __eq__(self, other):
        return (isinstance(other, Growth) and self._begin == other._begin and self._end == other._end
                and self._kept == other._kept)

    def __str__(self):
        return f"growth from {len(self._begin)} to {len(self._end)} events"


def is_history(value):
    """Whether the value is a history with 1 to 200 logs."""
    if not isinstance(value, tuple) or not 1 <= len(value) <= MAX_HISTORY:
        return False
    if not all([is_any_log(log) for log in value]) or value[0] != ():
        return False
    return all([is_below(log, other) for log, other in zip(value, value[1:])])


def is_arrival(log, value):
    """Whether the value is a tuple with each position of the log once."""
    if not isinstance(value, tuple) or len(value) != len(log):
        return False
    return all([is_whole(at) for at in value]) and sorted(value) == list(range(len(log)))


def arrived(log, order):
    """The history in which the events of the log arrive one by one, in this order."""
    check_log(log)
    if not is_arrival(log, order):
        raise InvalidOperation("an order is a tuple with each position once")
    check_history_size(len(log) + 1)
    present = [False for _ in log]
    history = [()]
    for at in order:
        present[at] = True
        history.append(tuple([event for event, here in zip(log, present) if here]))
    return tuple(history)


def refined(history):
    """The history in which the logs of all steps stand between neighbours."""
    if not is_history(history):
        raise InvalidHistory("a history is a tuple of 1 to 200 logs that grow from ()")
    # each log of the result has one event more than the one before it
    check_history_size(len(history[-1]) + 1)
    found = [()]
    for log, other in zip(history, history[1:]):
        growth = Growth.between(log, other)
        for step in growth.steps():
            found.append(step.end)
    return tuple(found)
