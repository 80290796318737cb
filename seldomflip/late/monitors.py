"""Monitors, which take events with their times in any order and tell their answers."""

from seldomflip.base.checks import check_many, check_number, is_name, is_whole
from seldomflip.errors import InvalidNumber, InvalidOperation, UnknownName
from seldomflip.judges.judges import check_judge, check_verdict, verdicts_in
from seldomflip.late.moments import (
    check_pairs, checked_events, closed_part, late_part, left_in, letters_at, log_of_events, state_with, turning_in)
from seldomflip.sets.machines import label_of
from seldomflip.text.words import log_text
from seldomflip.towers.swings import firsts_in
from seldomflip.towers.towers import rounds_of

MAX_TIME = 1000000000


def begin_answer(judge, first):
    """The answer of a monitor without events."""
    verdicts = verdicts_in(judge)
    if verdicts == ():
        raise InvalidOperation("the judge has no verdicts")
    begin = label_of(judge, ())
    if begin is not None:
        return begin
    if first is not None:
        return first
    bests = firsts_in(rounds_of(judge))
    return bests[0] if bests != () else verdicts[0]


def check_watch_name(name):
    """Refuses a name under which nothing can be watched."""
    if not is_name(name):
        raise InvalidOperation("a name is one to eight letters a to z")


def both_logs_text(state):
    """The text of the closed and the late log."""
    return f"{log_text(closed_part(state))}|{log_text(late_part(state))}"


class Block:
    """A block behind which a monitor is as it was ahead of it."""

    def __init__(self, monitor):
        self._monitor = monitor
        self._past = ()
        self._ahead = ()
        self._before = None
        self._watches = None

    def __enter__(self):
        self._past = self._monitor._past
        self._ahead = self._monitor._ahead
        self._before = self._monitor._before
        self._watches = self._monitor._watches
        return self._monitor

    def __exit__(self, kind, value, trace):
        monitor = self._monitor
        monitor._past = self._past
        monitor._ahead = self._ahead
        monitor._before = self._before
        monitor._watches = self._watches


class Monitor:
    """Takes events with their times in any order, and tells at each moment its answer."""

    def __init__(self, judge, *, first=None):
        check_judge(judge)
        if first is not None:
            check_verdict(judge, first)
        self._judge = judge
        # the states behind the groups, those that can be made again, and both in front of the last call
        self._past = (((), 0, begin_answer(judge, first), 0),)
        self._ahead = ()
        self._before = None
        # never changed, but replaced
        self._watches = {}

    @property
    def judge(self):
        """The judge."""
        return self._judge

    @property
    def answer(self):
        """The answer."""
        return self._past[-1][2]

    @property
    def flips(self):
        """The number of flips so far."""
        return self._past[-1][3]

    @property
    def events(self):
        """The events in order, as pairs of a time and a letter."""
        return self._past[-1][0]

    @property
    def log(self):
        """The letters of all events."""
        return log_of_events(self._past[-1][0])

    @property
    def closed(self):
        """The letters of the events that are final."""
        return closed_part(self._past[-1])

    @property
    def late(self):
        """The letters of the other events."""
        return late_part(self._past[-1])

    @property
    def closed_to(self):
        """The time to which the monitor is closed."""
        return self._past[-1][1]

    @property
    def groups(self):
        """The number of groups in effect."""
        return len(self._past) - 1

    def _go_to(self, past, ahead):
        """Takes other states, and keeps what was in front of this call."""
        self._before = (self._past, self._ahead)
        self._past = past
        self._ahead = ahead

    def _add(self, state):
        """Makes a group."""
        self._go_to(self._past + (state,), ())

    def flips_left(self):
        """The flips left, or None."""
        return left_in(self._judge, self._past[-1])

    def is_settled(self):
        """Whether no flips are left."""
        return left_in(self._judge, self._past[-1]) == 0

    def _told(self, told):
        """The state behind events, each a tuple of its time, its letter and its position."""
        state = self._past[-1]
        events = state[0]
        for one in told:
            events = checked_events(self._judge, MAX_TIME, events, state[1], one)
        return state_with(self._judge, state, events)

    def tell(self, time, letter, *, position=None):
        """Tells an event with so many events with its time in front of it, and returns the answer."""
        self._add(self._told(((time, letter, position),)))
        return self.answer

    def tell_all(self, events):
        """Tells the events of a tuple as one group, and returns the answer."""
        check_pairs(events)
        if events != ():
            self._add(self._told(tuple([pair + (None,) for pair in events])))
        return self.answer

    def close(self, time):
        """Closes the monitor to a time, and returns the flips left."""
        events, closed_to, answer, flips = self._past[-1]
        check_number(time, 0, MAX_TIME)
        if time < closed_to:
            raise InvalidNumber(time)
        state = (events, time, answer, flips)
        left = left_in(self._judge, state)
        self._add(state)
        return left

    def __call__(self, time, letter):
        """The answer that the event would bring if it was told."""
        return self._told(((time, letter, None),))[2]

    def turning(self):
        """Events, as triples of a time, a letter and a position, that bring the next flip, or None."""
        return turning_in(self._judge, self._past[-1])

    def back(self, many=1):
        """Takes the last groups back, and returns how many are left."""
        check_many(many, len(self._past) - 1)
        kept = len(self._past) - many
        self._go_to(self._past[:kept], self._past[kept:] + self._ahead)
        return self.groups

    def again(self, many=1):
        """Makes groups again that were taken back, and returns how many there are then."""
        check_many(many, len(self._ahead))
        self._go_to(self._past + self._ahead[:many], self._ahead[many:])
        return self.groups

    def branch(self):
        """An independent monitor in the same state."""
        other = Monitor(self._judge, first=self._past[0][2])
        other._past = self._past
        other._ahead = self._ahead
        other._before = self._before
        other._watches = self._watches
        return other

    def trial(self):
        """A block that gives the monitor; behind it everything is as before."""
        return Block(self)

    def during(self, call):
        """What the call returns for the monitor; then everything is as before."""
        with self.trial() as one:
            return call(one)

    def watch(self, name, call):
        """Adds or replaces a function of a monitor that is asked for rings."""
        check_watch_name(name)
        watches = dict(self._watches)
        watches[name] = call
        self._watches = watches

    def unwatch(self, name):
        """Removes a function."""
        check_watch_name(name)
        if name not in self._watches:
            raise UnknownName(name)
        self._watches = {one: self._watches[one] for one in self._watches if one != name}

    def _in_front(self):
        """A monitor in the state in front of the last call that made groups or took them back."""
        other = self.branch()
        other._past, other._ahead = self._before
        other._before = None
        return other

    def rings(self):
        """Yields the watches whose values the last call changed, with the old and the new one."""
        watches = self._watches
        names = [] if self._before is None else sorted(watches)
        for name in names:
            call = watches[name]
            old = call(self._in_front())
            new = call(self.branch())
            if old != new:
                yield name, old, new

    def __len__(self):
        return len(self._past[-1][0])

    def __contains__(self, value):
        # True and False are no times
        return isinstance(value, tuple) and len(value) == 2 and is_whole(value[0]) and value in self._past[-1][0]

    def __getitem__(self, at):
        check_number(at, 0, MAX_TIME)
        return letters_at(self._past[-1][0], at)

    def __iter__(self):
        raise TypeError("a monitor is not iterated over")

    def __eq__(self, other):
        return isinstance(other, Monitor) and self._judge == other._judge and self._past[-1] == other._past[-1]

    def __str__(self):
        return f"{both_logs_text(self._past[-1])}: {self._past[-1][2]}, {self._past[-1][3]} flips"
