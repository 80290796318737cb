"""Covers and swings of judges, for values that anyone may have made."""

from seldomflip.judges.judges import verdicts_in
from seldomflip.sets.closures import is_closed_down
from seldomflip.sets.logsets import Logs
from seldomflip.sets.spreads import Live
from seldomflip.sets.tables import first_path
from seldomflip.towers.rounds import Inside


def is_closed_over(letters, value):
    """Whether the value is a set of logs over the letters that is closed downward."""
    return isinstance(value, Logs) and value.letters == letters and is_closed_down(value)


def is_cover(judge, verdicts, value):
    """Whether the value is a dict from the verdicts to sets closed downward."""
    if not isinstance(value, dict) or len(value) != len(verdicts):
        return False
    if not all([verdict in value for verdict in verdicts]):
        return False
    return all([is_closed_over(judge[0], value[verdict]) for verdict in verdicts])


def contains_all(judge, verdict, inside, logs):
    """Whether the logs with the verdict that are inside the one set, closed downward, are in the other one."""
    _, rows, labels = judge
    _, others, good = inside.machine
    _, thirds, third_good = logs.machine

    def step(states, at):
        one, other, third = states
        following = others[other][at]
        return (rows[one][at], following, thirds[third][at]) if good[following] else None

    def is_left_out(states):
        return labels[states[0]] == verdict and not third_good[states[2]]

    return not inside or first_path((0, 0, 0), len(rows[0]), step, is_left_out) is None


def are_covers(judge, value):
    """Whether the value is covers of the judge."""
    verdicts = verdicts_in(judge)
    if not isinstance(value, tuple) or not all([is_cover(judge, verdicts, cover) for cover in value]):
        return False
    everything = Logs.everything(judge[0])
    for cover in value[:1]:
        if not all([contains_all(judge, verdict, everything, cover[verdict]) for verdict in verdicts]):
            return False
    for before, cover in zip(value, value[1:]):
        for verdict in verdicts:
            for other in verdicts:
                if other != verdict and not contains_all(judge, verdict, before[other], cover[verdict]):
                    return False
    return True


def mask_after_loops(row, state, spread, mask):
    """The least mask behind the events that lead from a state to itself."""
    known = None
    while mask != known:
        known = mask
        for at, following in enumerate(row):
            if following == state:
                mask = spread.behind(mask, at)
    return mask


def never_ends(machine, spread, begin):
    """Whether the spread leaves some state behind each log of a set closed downward.

    A lesser mask never leads to a greater one. So at each state of the machine only the least masks
    count, and these come from going round its loops as long as anything changes.
    """
    _, rows, good = machine
    known = [[] for _ in rows]
    stack = [(0, begin)]
    while stack:
        state, mask = stack.pop()
        mask = mask_after_loops(rows[state], state, spread, mask)
        if mask == 0:
            return False
        if not any([less & ~mask == 0 for less in known[state]]):
            known[state].append(mask)
            for at, following in enumerate(rows[state]):
                if following != state and good[following]:
                    stack.append((following, spread.behind(mask, at)))
    return True


def is_swing_of(judge, value):
    """Whether the value is a swing of the judge."""
    letters, rows, labels = judge
    if not is_closed_over(letters, value) or not value:
        return False
    verdicts = verdicts_in(judge)
    inside = Inside(rows, {"": value.machine[1:]})
    begin = inside.begin_mask()
    for verdict in verdicts:
        others = tuple([other for other in verdicts if other != verdict])
        live = Live(inside.falling, inside.mask_with(labels, {"": others}))
        if not never_ends(value.machine, live, begin & live.goods):
            return False
    return verdicts != ()
