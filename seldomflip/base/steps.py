"""Numbers of positions, and the steps between logs that are alike, for values that are known to be logs."""

from seldomflip.base.checks import is_whole


def number_from(numbers, place):
    """The left number of an event behind the numbered ones that was last at this place, or nowhere."""
    return 1 if place is None else 1 + min(numbers[place:])


def numbered(log):
    """The left numbers of the log, and the last place of each event."""
    numbers = []
    places = {}
    for at, event in enumerate(log):
        numbers.append(number_from(numbers, places.get(event)))
        places[event] = at
    return numbers, places


def both_numbers(log):
    """The left numbers and the right numbers of all positions."""
    left, _ = numbered(log)
    # what stands last in the log stands first in the reversed one
    right, _ = numbered(log[::-1])
    return left, right[::-1]


def has_step_form(value, length):
    """Whether the value is a step for logs of this length, if its events differ."""
    if not isinstance(value, tuple) or len(value) != 2 or not is_whole(value[1]):
        return False
    kind, at = value
    if kind == "out":
        return 0 <= at < length
    return kind == "turn" and 0 <= at < length - 1


class Side:
    """The events on one side of a place in a log, the nearest one last, with their numbers."""

    def __init__(self):
        self.stack = []
        self._numbers = []
        self._places = {}

    def number_of(self, event):
        """The number that the event would have if it was the nearest one."""
        places = self._places.get(event)
        return number_from(self._numbers, places[-1] if places else None)

    def put_on(self, event):
        """Puts the event nearest to the place."""
        number = self.number_of(event)
        self._places.setdefault(event, []).append(len(self.stack))
        self.stack.append(event)
        self._numbers.append(number)

    def take_off(self):
        """Takes off the nearest event and returns it."""
        event = self.stack.pop()
        self._numbers.pop()
        self._places[event].pop()
        return event


class Moving:
    """A log behind steps. Numbers are told anew only for the events between the places of two steps."""

    def __init__(self, log):
        self._ahead = Side()
        self._behind = Side()
        for event in log[::-1]:
            self._behind.put_on(event)

    def whole(self):
        """The log as it is now."""
        return tuple(self._ahead.stack + self._behind.stack[::-1])

    def take(self, step, k):
        """Whether the value is a step that is allowed; if it is, the log is the one behind it from now on."""
        if not has_step_form(step, len(self._ahead.stack) + len(self._behind.stack)):
            return False
        kind, at = step
        while len(self._ahead.stack) < at:
            self._ahead.put_on(self._behind.take_off())
        while len(self._ahead.stack) > at:
            self._behind.put_on(self._ahead.take_off())
        event = self._behind.take_off()
        if kind == "out":
            return self._ahead.number_of(event) + self._behind.number_of(event) > k + 1
        other = self._behind.take_off()
        one_sum = self._ahead.number_of(event) + self._behind.number_of(other)
        other_sum = self._ahead.number_of(other) + self._behind.number_of(event)
        self._behind.put_on(event)
        self._behind.put_on(other)
        return event != other and one_sum > k and other_sum > k


def log_behind_all(log, k, taken):
    """The log behind the steps, or None if one of them is not allowed."""
    moving = Moving(log)
    for step in taken:
        if not moving.take(step, k):
            return None
    return moving.whole()


def thinned(log, k):
    """A shortest log that is alike up to k, and the steps to it.

    An event that cannot be left out is needed for a pattern of at most k events. So it cannot be left
    out either once others behind it are, and going through the log once is enough: ahead of an event
    the log is as it will stay, and behind it as it was.
    """
    _, right = both_numbers(log)
    kept = []
    numbers = []
    places = {}
    taken = []
    for event, behind in zip(log, right):
        number = number_from(numbers, places.get(event))
        if number + behind > k + 1:
            taken.append(("out", len(kept)))
        else:
            places[event] = len(kept)
            kept.append(event)
            numbers.append(number)
    return tuple(kept), taken


def turn_places(log, k):
    """For each position but the last one, whether its event may be exchanged with the next one.

    In a shortest log this holds exactly where the numbers of both are equal and sum to k + 1. All
    events then keep their numbers, so the places stay the same behind every such turn.
    """
    left, right = both_numbers(log)
    pairs = list(zip(left, right))
    return [one == two and sum(one) == k + 1 for one, two in zip(pairs, pairs[1:])]


def straightened(log, k):
    """The first log that turns lead to from a shortest one."""
    may_turn = turn_places(log, k)
    found = []
    begin = 0
    for at in range(len(log)):
        if at == len(log) - 1 or not may_turn[at]:
            found.extend(sorted(log[begin:at + 1]))
            begin = at + 1
    return tuple(found)


def straightening(log, k):
    """The turns that lead from a shortest log to the first one."""
    may_turn = turn_places(log, k)
    events = list(log)
    taken = []
    for end in range(1, len(log)):
        at = end - 1
        while at >= 0 and may_turn[at] and events[at] > events[at + 1]:
            taken.append(("turn", at))
            events[at], events[at + 1] = events[at + 1], events[at]
            at -= 1
    return taken


def steps_to_first(log, k):
    """Allowed steps that lead to the first log that is alike up to k."""
    short, outs = thinned(log, k)
    return tuple(outs + straightening(short, k))
