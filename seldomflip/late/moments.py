"""What a monitor is behind a group: a tuple of its events, what it is closed to, its answer and its flips."""

from seldomflip.base.checks import check_number
from seldomflip.base.logs import check_events
from seldomflip.base.ways import first_way
from seldomflip.errors import InvalidEdit, TooLate, UnknownName
from seldomflip.late.closing import left_at, turning_of
from seldomflip.sets.machines import label_of


def check_pairs(value):
    """Refuses what is no tuple of pairs."""
    if not isinstance(value, tuple) or not all([isinstance(pair, tuple) and len(pair) == 2 for pair in value]):
        raise InvalidEdit("a tuple of pairs of a time and a letter is needed")


def log_of_events(events):
    """The log of some events."""
    return tuple([letter for _, letter in events])


def closed_part(state):
    """The closed log."""
    events, closed_to, _, _ = state
    return tuple([letter for time, letter in events if time < closed_to])


def late_part(state):
    """The late log."""
    events, closed_to, _, _ = state
    return tuple([letter for time, letter in events if time >= closed_to])


def letters_at(events, time):
    """The letters of the events with this time."""
    return tuple([letter for one, letter in events if one == time])


def with_event(events, time, letter, position):
    """The events with one more, which has so many with its time in front of it; None is for all of them."""
    place = len([1 for one, _ in events if one < time])
    place = place + (len(letters_at(events, time)) if position is None else position)
    return events[:place] + ((time, letter),) + events[place:]


def checked_events(judge, most_time, events, closed_to, told):
    """The events with one more, told by a tuple of its time, its letter and its position."""
    time, letter, position = told
    check_number(time, 0, most_time)
    if letter not in judge[0]:
        raise UnknownName(letter)
    if position is not None:
        check_number(position, 0, len(letters_at(events, time)))
    if time < closed_to:
        raise TooLate(time)
    check_events(len(events) + 1)
    return with_event(events, time, letter, position)


def state_with(judge, state, events):
    """The state with other events, and the keeping answer to them."""
    _, closed_to, answer, flips = state
    verdict = label_of(judge, log_of_events(events))
    if verdict is None or verdict == answer:
        return events, closed_to, answer, flips
    return events, closed_to, verdict, flips + 1


def left_in(judge, state):
    """The flips left, or None."""
    return left_at(judge, closed_part(state), late_part(state), state[2])


def turning_in(judge, state):
    """The events, with their positions, that bring the next flip; None if there is none."""
    events, closed_to, answer, _ = state
    late = late_part(state)
    closed = closed_part(state)
    log = turning_of(judge, closed, late, answer)
    if log is None:
        return None
    check_events(len(closed) + len(log))
    way = first_way(late, log)
    old = events[len(closed):]
    time = closed_to
    many = 0
    met = 0
    found = []
    for place, letter in enumerate(log):
        if met < len(way) and way[met] == place:
            # events behind one with another time are told with that time
            many = many if old[met][0] == time else 0
            time = old[met][0]
            met += 1
        else:
            found.append((time, letter, many))
        many += 1
    return tuple(found)
