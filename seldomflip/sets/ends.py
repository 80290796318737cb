"""Least tables of the logs above some logs.

What must still come is told by ends of those logs. Only the minimal ones of them count, and these tell
the logs that can follow. So the different rows of minimal ends are the states of the least machine.
"""

from seldomflip.sets.tables import check_size


class Ends:
    """What the logs end with, by numbers; the empty log has the number 0."""

    def __init__(self, logs):
        self._logs = logs
        # for each end its first event, the end behind that, and a log with the position where it begins there
        self._events = [None]
        self._rests = [0]
        self._begins = [(0, len(log)) for log in logs[:1]]
        self._lasts = {}
        numbers = {}
        whole = []
        for at, log in enumerate(logs):
            end = 0
            for position in reversed(range(len(log))):
                key = (log[position], end)
                if key not in numbers:
                    numbers[key] = len(self._events)
                    self._events.append(log[position])
                    self._rests.append(end)
                    self._begins.append((at, position))
                end = numbers[key]
            whole.append((len(log), end))
        self.first_ends = self._minimal([end for _, end in sorted(set(whole))])

    def _lasts_in(self, one, other):
        """For each position of the one log, and its end, where the longest end begins that the other log has below."""
        key = (one, other)
        if key not in self._lasts:
            events = self._logs[other]
            place = len(events)
            found = [place]
            for event in self._logs[one][::-1]:
                if place > 0 and events[place - 1] == event:
                    place -= 1
                found.append(place)
            self._lasts[key] = found[::-1]
        return self._lasts[key]

    def _is_above_some(self, end, others):
        """Whether one of the other ends occurs in the end."""
        one, place = self._begins[end]
        for other in others:
            two, other_place = self._begins[other]
            if other_place >= self._lasts_in(one, two)[place]:
                return True
        return False

    def _minimal(self, ends):
        """The ends, which ascend by their lengths, in which no other one of them occurs."""
        found = []
        for end in ends:
            if not self._is_above_some(end, found):
                found.append(end)
        return tuple(sorted(found))

    def behind(self, ends, event):
        """The minimal ends that are left behind one event more.

        Two ends that begin with the event occur in one another only if they do so without it, and no
        other end occurs in what is left of one of them, as it does not occur in the whole.
        """
        fewer = [self._rests[end] for end in ends if self._events[end] == event]
        others = [end for end in ends if self._events[end] != event]
        return tuple(sorted(fewer + [end for end in others if not self._is_above_some(end, fewer)]))


def listed_above(letters, logs, most):
    """Rows and good states of the least table of the logs above one of these; more states are refused."""
    ends = Ends(logs)
    states = [ends.first_ends]
    number = {ends.first_ends: 0}
    rows = []
    while len(rows) < len(states):
        state = states[len(rows)]
        row = []
        for letter in letters:
            following = ends.behind(state, letter)
            if following not in number:
                number[following] = len(states)
                states.append(following)
                check_size(len(states), most)
            row.append(number[following])
        rows.append(tuple(row))
    return tuple(rows), tuple([state == (0,) for state in states])
