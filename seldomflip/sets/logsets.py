"""Sets of logs."""

from seldomflip.base.checks import check_number, is_whole
from seldomflip.base.logs import MAX_EVENTS, check_events, check_letters
from seldomflip.errors import InvalidLog, InvalidNumber, InvalidOperation
from seldomflip.sets.listings import listed_table
from seldomflip.sets.machines import (
    MAX_STATES, check_log_over, check_machine, is_log_over, label_of, least_of, log_of, merged_of, path_of, state_of)
from seldomflip.sets.tables import check_size, first_path, last_first, live_states, renumbered


def check_set(value):
    """Refuses what is no set of logs."""
    if not isinstance(value, Logs):
        raise InvalidOperation("a set of logs is needed")


def check_logs_over(letters, value):
    """Refuses what is no tuple of logs of these letters."""
    if not isinstance(value, tuple):
        raise InvalidLog("a tuple of logs is needed")
    for log in value:
        check_log_over(letters, log)


def check_least(value):
    """Refuses what is no integer of at least 0."""
    if not is_whole(value) or value < 0:
        raise InvalidNumber(value)


def sized_table(width, least_length, most_length):
    """The rows and the good states of the logs with at least and at most so many events."""
    if most_length is not None and most_length < least_length:
        return [(0,) * width], [False]
    # a state for each number of events that must be told apart
    last = least_length if most_length is None else most_length + 1
    check_size(last + 1, MAX_STATES)
    rows = [(min(state + 1, last),) * width for state in range(last + 1)]
    goods = [least_length <= state and (most_length is None or state <= most_length) for state in range(last + 1)]
    return rows, goods


def ways_behind(rows, ways):
    """From each state the number of ways with one event more than these."""
    return [sum([ways[following] for following in row]) for row in rows]


def path_with(rows, ways, index):
    """The path of the good log with this index among those with one event less than there are rows of ways."""
    state = 0
    path = []
    for behind in ways[:-1][::-1]:
        at = 0
        while index >= behind[rows[state][at]]:
            index = index - behind[rows[state][at]]
            at += 1
        path.append(at)
        state = rows[state][at]
    return path


class Logs:
    """A regular set of logs."""

    def __init__(self, machine):
        check_machine(machine)
        self._machine = least_of(machine)

    @classmethod
    def listing(cls, letters, *logs):
        """The set of exactly these logs."""
        return cls.listing_of(letters, logs)

    @classmethod
    def listing_of(cls, letters, logs):
        """The set of exactly the logs of a tuple."""
        check_letters(letters)
        check_logs_over(letters, logs)
        rows, goods, begin = listed_table(letters, logs)
        if begin != 0:
            check_size(len(rows), MAX_STATES)
        found, labels = renumbered(rows, goods, begin)
        return cls((letters, found, labels))

    @classmethod
    def everything(cls, letters):
        """The set of all logs."""
        check_letters(letters)
        return cls((letters, ((0,) * len(letters),), (True,)))

    @classmethod
    def nothing(cls, letters):
        """The empty set."""
        check_letters(letters)
        return cls((letters, ((0,) * len(letters),), (False,)))

    @classmethod
    def sized(cls, letters, *, least=0, most=None):
        """The set of the logs with at least and at most so many events."""
        check_letters(letters)
        check_least(least)
        if most is not None:
            check_least(most)
        rows, goods = sized_table(len(letters), least, most)
        return cls((letters, tuple(rows), tuple(goods)))

    @property
    def letters(self):
        """The letters of the logs."""
        return self._machine[0]

    @property
    def machine(self):
        """The least machine of the set."""
        return self._machine

    def _merged(self, other, wanted):
        """The set of the logs that are in both, in this set, in the other, in neither, as wanted."""
        if not isinstance(other, Logs) or other._machine[0] != self._machine[0]:
            raise InvalidOperation("a set of logs over the same letters is needed")
        return Logs(merged_of(self._machine, other._machine, wanted))

    def __or__(self, other):
        return self._merged(other, (True, True, True, False))

    def __and__(self, other):
        return self._merged(other, (True, False, False, False))

    def __sub__(self, other):
        return self._merged(other, (False, True, False, False))

    def __xor__(self, other):
        return self._merged(other, (False, True, True, False))

    def __invert__(self):
        letters, rows, good = self._machine
        return Logs((letters, rows, tuple([not one for one in good])))

    def is_within(self, other):
        """Whether all logs of this set are in the other one."""
        if not isinstance(other, Logs) or other._machine[0] != self._machine[0]:
            raise InvalidOperation("a set of logs over the same letters is needed")
        _, rows, good = self._machine
        _, others, other_good = other._machine

        def step(pair, at):
            return rows[pair[0]][at], others[pair[1]][at]

        def is_outside(pair):
            return good[pair[0]] and not other_good[pair[1]]

        return first_path((0, 0), len(self._machine[0]), step, is_outside) is None

    def __contains__(self, value):
        return is_log_over(self._machine[0], value) and label_of(self._machine, value)

    def __bool__(self):
        return True in self._machine[2]

    def __len__(self):
        return len(self._machine[1])

    def __eq__(self, other):
        return isinstance(other, Logs) and self._machine == other._machine

    def __str__(self):
        return f"logs over {', '.join(self._machine[0])}: {len(self._machine[1])} states"

    def __call__(self, log):
        """The set of the logs that can stand behind this one."""
        letters, rows, good = self._machine
        check_log_over(letters, log)
        found, labels = renumbered(rows, good, state_of(self._machine, log))
        return Logs((letters, found, labels))

    def first(self):
        """The first log of the set, or None."""
        letters, rows, good = self._machine

        def step(state, at):
            return rows[state][at]

        def is_good(state):
            return good[state]

        path = first_path(0, len(letters), step, is_good)
        return None if path is None else log_of(letters, path)

    def listed(self, *, longest=4):
        """Yields the logs of the set with at most so many events, in order."""
        check_number(longest, 0, MAX_EVENTS)
        letters, rows, good = self._machine
        ways = [[1 if one else 0 for one in good]]
        for length in range(longest + 1):
            for index in range(ways[length][0]):
                yield log_of(letters, path_with(rows, ways, index))
            ways.append(ways_behind(rows, ways[length]))

    def count(self):
        """The number of logs of the set, or None if there is no end of them."""
        _, rows, good = self._machine
        live = live_states(rows, good)
        counts = {}
        for state in last_first(rows, [0]):
            if live[state]:
                counted = 1 if good[state] else 0
                for following in rows[state]:
                    # what is live and not counted yet leads back to the state
                    if live[following] and following not in counts:
                        return None
                    counted = counted + counts.get(following, 0)
                counts[state] = counted
        return counts.get(0, 0)

    def count_of(self, length):
        """The number of logs of the set with exactly so many events."""
        check_number(length, 0, MAX_EVENTS)
        _, rows, good = self._machine
        ways = [1 if one else 0 for one in good]
        for _ in range(length):
            ways = ways_behind(rows, ways)
        return ways[0]

    def log_at(self, index):
        """The log of the set with this index."""
        check_least(index)
        letters, rows, good = self._machine
        many = self.count()
        if many is not None and index >= many:
            raise InvalidNumber(index)
        left = index
        ways = [[1 if one else 0 for one in good]]
        while left >= ways[-1][0]:
            left = left - ways[-1][0]
            # with less than 200 events more than these no log would be left out
            check_events(len(ways))
            ways.append(ways_behind(rows, ways[-1]))
        return log_of(letters, path_with(rows, ways, left))

    def index_of(self, log):
        """The number of logs of the set that come before the log."""
        letters, rows, good = self._machine
        check_log_over(letters, log)
        ways = [[1 if one else 0 for one in good]]
        for _ in log:
            ways.append(ways_behind(rows, ways[-1]))
        index = sum([behind[0] for behind in ways[:-1]])
        state = 0
        for behind, at in zip(ways[:-1][::-1], path_of(letters, log)):
            index = index + sum([behind[following] for following in rows[state][:at]])
            state = rows[state][at]
        return index
