"""What is above and below sets of logs, and which sets are closed."""

from seldomflip.base.logs import check_events, check_letters
from seldomflip.base.ways import is_below, next_places
from seldomflip.errors import InvalidOperation
from seldomflip.sets.ends import listed_above
from seldomflip.sets.extremes import maximal_table, minimal_table
from seldomflip.sets.listings import listed_table
from seldomflip.sets.logsets import Logs, check_logs_over, check_set
from seldomflip.sets.machines import (
    MAX_STATES, are_going_on, are_pairs, check_log_over, is_log_over, label_of, log_of, path_of)
from seldomflip.sets.spreads import above_table, below_table
from seldomflip.sets.tables import first_path, live_states, read_path


def set_of(letters, table):
    """The set of the machine with these rows and good states."""
    rows, good = table
    return Logs((letters, rows, good))


def above(logs):
    """The set of all logs above a log of the set."""
    check_set(logs)
    letters, rows, good = logs.machine
    return set_of(letters, above_table(rows, good, MAX_STATES))


def below(logs):
    """The set of all logs below a log of the set."""
    check_set(logs)
    letters, rows, good = logs.machine
    return set_of(letters, below_table(rows, good, 0, MAX_STATES))


def above_of(letters, logs):
    """The set of all logs above a log of the tuple."""
    check_letters(letters)
    check_logs_over(letters, logs)
    return set_of(letters, listed_above(letters, logs, MAX_STATES))


def below_of(letters, logs):
    """The set of all logs below a log of the tuple."""
    check_letters(letters)
    check_logs_over(letters, logs)
    rows, goods, begin = listed_table(letters, logs)
    return set_of(letters, below_table(rows, goods, begin, MAX_STATES))


def inside_up(logs):
    """The greatest set closed upward that is within the set."""
    check_set(logs)
    return ~below(~logs)


def inside_down(logs):
    """The greatest set closed downward that is within the set."""
    check_set(logs)
    return ~above(~logs)


def minimal(logs):
    """The set of the minimal logs of the set."""
    check_set(logs)
    letters, rows, good = logs.machine
    return set_of(letters, minimal_table(rows, good, MAX_STATES))


def maximal(logs):
    """The set of the maximal logs of the set."""
    check_set(logs)
    letters, rows, good = logs.machine
    return set_of(letters, maximal_table(rows, good, MAX_STATES))


def first_over(logs, log):
    """The first log of the set that is above the log, or None."""
    check_set(logs)
    letters, rows, good = logs.machine
    check_log_over(letters, log)
    live = live_states(rows, good)
    wanted = path_of(letters, log)

    def step(config, at):
        state, many = config
        following = rows[state][at]
        if many < len(wanted) and wanted[many] == at:
            many += 1
        return (following, many) if live[following] else None

    def is_found(config):
        return good[config[0]] and config[1] == len(wanted)

    path = first_path((0, 0), len(letters), step, is_found)
    if path is None:
        return None
    check_events(len(path))
    return log_of(letters, path)


def first_under(logs, log):
    """The first log of the set that is below the log, or None."""
    check_set(logs)
    letters, rows, good = logs.machine
    check_log_over(letters, log)
    places = next_places(log, letters)

    def step(config, at):
        state, begin = config
        place = places[begin][at]
        return None if place == len(log) else (rows[state][at], place + 1)

    def is_found(config):
        return good[config[0]]

    path = first_path((0, 0), len(letters), step, is_found)
    return None if path is None else log_of(letters, path)


def next_configs(rows, config, up):
    """What follows a config, with the places of the letters; behind all of these, those of the event put in.

    A config is a state and None, or the pair of the states behind a log and behind the same log with
    one event more, which stands in front where this is not upward.
    """
    state, other = config
    if other is not None:
        return list(enumerate(zip(rows[state], rows[other])))
    read = [(at, (following, None)) for at, following in enumerate(rows[state])]
    many = len(read)
    if up:
        return read + [(many + at, (state, following)) for at, following in enumerate(rows[state])]
    return read + [(many + at, (following, state)) for at, following in enumerate(rows[state])]


def opened(letters, path, up):
    """The paper that a set is open, by the path to a pair that shows it."""
    many = len(letters)
    less = log_of(letters, [at for at in path if at < many])
    more = log_of(letters, [at if at < many else at - many for at in path])
    return ("open", less, more) if up else ("open", more, less)


def paper_of(machine, up):
    """A closure paper of the set of a least machine.

    The configs are met in the order of the lengths of the longer logs. So the logs of an open set
    are short enough: of all of them take those with the shortest longer log, and of these those in
    which the one event stands as late as possible. On the way of the log without it no state comes
    twice: what is between could be left out, or the event could stand later, or the log be shorter.
    So it has fewer events than there are states.
    """
    letters, rows, good = machine
    came = {(0, None): None}
    queue = [(0, None)]
    at = 0
    while at < len(queue):
        config = queue[at]
        at += 1
        for place, following in next_configs(rows, config, up):
            if following not in came:
                came[following] = (config, place)
                queue.append(following)
                one, other = following
                if other is not None and good[one] and not good[other]:
                    return opened(letters, read_path(came, following), up)
    return ("closed", tuple(sorted([config for config in queue if config[1] is not None])))


def is_closed_up(logs):
    """Whether the set is closed upward."""
    check_set(logs)
    return paper_of(logs.machine, True)[0] == "closed"


def is_closed_down(logs):
    """Whether the set is closed downward."""
    check_set(logs)
    return paper_of(logs.machine, False)[0] == "closed"


def check_up(up):
    """Refuses what is neither True nor False."""
    if not isinstance(up, bool):
        raise InvalidOperation("up is True or False")


def closure_paper(logs, *, up=True):
    """A closure paper of the set."""
    check_set(logs)
    check_up(up)
    return paper_of(logs.machine, up)


def are_closing_pairs(machine, value, up):
    """Whether the value is pairs that show that the set of a least machine is closed."""
    _, rows, good = machine
    if not are_pairs(value, len(rows), len(rows)):
        return False
    known = {pair: True for pair in value}
    for state, row in enumerate(rows):
        for following in row:
            if ((state, following) if up else (following, state)) not in known:
                return False
    if any([good[one] and not good[other] for one, other in value]):
        return False
    return are_going_on(value, rows, rows)


def are_opening(machine, log, other, up):
    """Whether the values are logs that show that the set of a least machine is open."""
    letters = machine[0]
    if not is_log_over(letters, log) or not is_log_over(letters, other):
        return False
    less, more = (log, other) if up else (other, log)
    if len(more) != len(less) + 1 or not is_below(less, more):
        return False
    return label_of(machine, log) and not label_of(machine, other)


def is_closure_paper(logs, value, *, up=True):
    """Whether the value is a closure paper of the set."""
    check_set(logs)
    check_up(up)
    if not isinstance(value, tuple):
        return False
    if len(value) == 2 and value[0] == "closed":
        return are_closing_pairs(logs.machine, value[1], up)
    return len(value) == 3 and value[0] == "open" and are_opening(logs.machine, value[1], value[2], up)
