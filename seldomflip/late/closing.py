"""Closed times: moments at which the first events of a log are final."""

from seldomflip.base.logs import MAX_EVENTS
from seldomflip.base.ways import is_below
from seldomflip.errors import InvalidLog, InvalidOperation
from seldomflip.judges.judges import behind, check_judge, check_verdict, different_verdicts
from seldomflip.sets.logsets import Logs
from seldomflip.sets.machines import MAX_STATES, check_log_over, label_of, log_of, path_of, state_of
from seldomflip.sets.spreads import below_table
from seldomflip.sets.tables import first_path
from seldomflip.towers.swinging import are_covers, is_swing_of
from seldomflip.towers.swings import flips_above
from seldomflip.towers.towers import greatest_of, is_tower_of, rounds_of, sets_of, times_inside, tower_of


def check_both(judge, closed, late):
    """Refuses what are no logs of the judge with at most 200 events together."""
    check_judge(judge)
    check_log_over(judge[0], closed)
    check_log_over(judge[0], late)
    if len(closed) + len(late) > MAX_EVENTS:
        raise InvalidLog("both logs together have at most 200 events")


def check_moment(judge, closed, late, answer):
    """Refuses what are no logs of a moment and its answer."""
    check_both(judge, closed, late)
    check_verdict(judge, answer)
    if label_of(judge, closed + late) not in (None, answer):
        raise InvalidOperation("the log has another verdict")


def left_at(judge, closed, late, answer):
    """The flips left at a moment, or None."""
    small = behind(judge, closed)
    return flips_above(rounds_of(small), answer, path_of(judge[0], late))


def flips_left(judge, closed, late, answer):
    """The flips left at the moment, or None."""
    check_moment(judge, closed, late, answer)
    return left_at(judge, closed, late, answer)


def states_above(rows, begin, low):
    """The states behind the logs above a path, from a state on, with the number of its events that are there."""
    configs = [(begin, 0)]
    known = {configs[0]: True}
    at = 0
    while at < len(configs):
        state, many = configs[at]
        at += 1
        for letter, following in enumerate(rows[state]):
            config = (following, many + 1 if many < len(low) and low[many] == letter else many)
            if config not in known:
                known[config] = True
                configs.append(config)
    return [state for state, many in configs if many == len(low)]


def possible(judge, closed, late):
    """The verdicts of the logs that can follow, ascending."""
    check_both(judge, closed, late)
    letters, rows, labels = judge
    states = states_above(rows, state_of(judge, closed), path_of(letters, late))
    return different_verdicts([labels[state] for state in states])


def turning_of(judge, closed, late, answer):
    """The first log above the late one such that the closed one and it have another verdict, or None."""
    letters, rows, labels = judge
    low = path_of(letters, late)

    def step(config, at):
        state, many = config
        return rows[state][at], many + 1 if many < len(low) and low[many] == at else many

    def is_found(config):
        return config[1] == len(low) and labels[config[0]] not in (None, answer)

    path = first_path((state_of(judge, closed), 0), len(letters), step, is_found)
    return None if path is None else log_of(letters, path)


def turning(judge, closed, late, answer):
    """The first log above the late one such that the closed one and it have another verdict, or None."""
    check_moment(judge, closed, late, answer)
    return turning_of(judge, closed, late, answer)


def settled_logs(judge, answer):
    """The set of all logs above which no log has another verdict than the answer."""
    check_judge(judge)
    check_verdict(judge, answer)
    letters, rows, labels = judge
    others, goods = below_table(rows, [label not in (None, answer) for label in labels], 0, MAX_STATES)
    return Logs((letters, others, tuple([not is_good for is_good in goods])))


def closing_paper(judge, closed, late, answer):
    """A closing paper of the moment."""
    check_moment(judge, closed, late, answer)
    small = behind(judge, closed)
    found = rounds_of(small)
    low = path_of(judge[0], late)
    many = flips_above(found, answer, low)
    if many is None:
        return ("swing", greatest_of(small, found))
    covers = tuple([sets_of(small, tables) for tables in found[:many + 1]])
    if many == 0:
        return ("flips", (), covers)
    verdicts = [one for one in found[0] if one != answer and times_inside(found, one, low) == many]
    return ("flips", tower_of(small, found, verdicts[0], many, low), covers)


def is_flips_paper(judge, late, answer, tower, covers):
    """Whether these are a tower and covers of a closing paper, for the judge behind the closed log."""
    if not is_tower_of(judge, tower) or not are_covers(judge, covers) or len(covers) != len(tower) + 1:
        return False
    if tower != () and (not is_below(late, tower[0]) or label_of(judge, tower[0]) == answer):
        return False
    cover = covers[-1]
    return not any([label_of(cover[verdict].machine, late) for verdict in cover if verdict != answer])


def is_closing_paper(judge, closed, late, answer, value):
    """Whether the value is a closing paper of the moment."""
    check_moment(judge, closed, late, answer)
    if not isinstance(value, tuple):
        return False
    small = behind(judge, closed)
    if len(value) == 3 and value[0] == "flips":
        return is_flips_paper(small, late, answer, value[1], value[2])
    if len(value) != 2 or value[0] != "swing":
        return False
    return is_swing_of(small, value[1]) and label_of(value[1].machine, late)
