"""Towers, rounds and heights."""

from seldomflip.base.checks import is_whole
from seldomflip.base.ways import is_below
from seldomflip.errors import InvalidNumber, InvalidOperation, Unlimited
from seldomflip.judges.judges import check_judge, check_verdict
from seldomflip.sets.logsets import Logs
from seldomflip.sets.machines import check_log_over, label_of, least_of, log_of, path_of
from seldomflip.sets.tables import read_path, state_after
from seldomflip.towers.rounds import all_rounds, united_table
from seldomflip.towers.swinging import are_covers, is_swing_of

MAX_ROUNDS = 200


def check_round(value):
    """Refuses what is no integer of at least 1."""
    if not is_whole(value) or value < 1:
        raise InvalidNumber(value)


def is_long_log(letters, value):
    """Whether the value is a log of the letters, of any length."""
    return isinstance(value, tuple) and all([event in letters for event in value])


def is_tower_of(judge, value):
    """Whether the value is a tower of the judge."""
    if not isinstance(value, tuple) or not all([is_long_log(judge[0], log) for log in value]):
        return False
    verdicts = [label_of(judge, log) for log in value]
    if None in verdicts or any([one == other for one, other in zip(verdicts, verdicts[1:])]):
        return False
    return all([is_below(log, other) for log, other in zip(value, value[1:])])


def is_tower(judge, value):
    """Whether the value is a tower of the judge."""
    check_judge(judge)
    return is_tower_of(judge, value)


def rounds_of(judge):
    """The rounds of all verdicts up to the first one at rest, as rows and good states."""
    return all_rounds(judge, MAX_ROUNDS)


def sets_of(judge, tables):
    """The sets of the tables, by the same names."""
    return {name: Logs((judge[0],) + tables[name]) for name in tables}


def rounds(judge):
    """Yields the rounds, as dicts from the verdicts to sets, up to the first one at rest."""
    check_judge(judge)
    for tables in rounds_of(judge):
        yield sets_of(judge, tables)


def round_at(found, number):
    """The round with a number, which may be a later one than the first one at rest."""
    return found[min(number, len(found)) - 1]


def round_of(judge, verdict, number):
    """One round of a verdict."""
    check_judge(judge)
    check_verdict(judge, verdict)
    check_round(number)
    tables = round_at(rounds_of(judge), number)
    return Logs((judge[0],) + tables[verdict])


def times_inside(found, verdict, path):
    """The greatest number of a round of the verdict with the log; 0 if there is none, None if all have it."""
    many = 0
    for tables in found:
        rows, goods = tables[verdict]
        if not goods[state_after(rows, 0, path)]:
            return many
        many += 1
    return None


def heights(judge):
    """The heights of all verdicts, None for a verdict that has none."""
    check_judge(judge)
    found = rounds_of(judge)
    return {verdict: times_inside(found, verdict, ()) for verdict in found[0]}


def height(judge, verdict):
    """The height of the verdict, or None."""
    check_judge(judge)
    check_verdict(judge, verdict)
    return times_inside(rounds_of(judge), verdict, ())


def reach(judge, log):
    """For each verdict the greatest number of a round with the log; 0 if there is none, None if all have it."""
    check_judge(judge)
    check_log_over(judge[0], log)
    found = rounds_of(judge)
    path = path_of(judge[0], log)
    return {verdict: times_inside(found, verdict, path) for verdict in found[0]}


def path_above(judge, low, allowed, table, spare):
    """The path of the first log above a path that has an allowed verdict and is in the set, closed downward.

    None if there is none with at most so many events more than the path.
    """
    _, rows, labels = judge
    others, goods = table
    begin = (0, 0, 0)
    came = {begin: None}
    queue = [(begin, spare)] if allowed and goods[0] else []
    at = 0
    while at < len(queue):
        config, left = queue[at]
        at += 1
        state, other, many = config
        if many == len(low) and labels[state] in allowed:
            return read_path(came, config)
        for letter, pair in enumerate(zip(rows[state], others[other])):
            is_next = many < len(low) and low[many] == letter
            following = pair + (many + 1 if is_next else many,)
            if goods[pair[1]] and (is_next or left > 0) and following not in came:
                came[following] = (config, letter)
                queue.append((following, left if is_next else left - 1))
    return None


def path_inside(judge, low, choices):
    """The path of the first log above a path that has an allowed verdict and is in the set, by one of some choices.

    There must be one. With few events to spare few logs must be gone through, and the first log of
    all is among them as soon as there is one.
    """
    spare = 1
    while True:
        paths = [path_above(judge, low, allowed, table, spare) for allowed, table in choices]
        lengths = [(len(path), path) for path in paths if path is not None]
        if lengths:
            return min(lengths)[1]
        spare = 2 * spare


def next_path(judge, found, low, allowed, number):
    """The path of the first log above a path with which a tower of this height and an allowed verdict begins.

    There must be one.
    """
    if number == 1:
        everything = (((0,) * len(judge[0]),), (True,))
        return path_inside(judge, low, [(allowed, everything)])
    tables = round_at(found, number - 1)
    return path_inside(judge, low, [([one for one in allowed if one != name], tables[name]) for name in tables])


def tower_of(judge, found, verdict, number, low):
    """The tower of this height above a path, each log of which is the first possible one; there must be one."""
    small = least_of(judge)
    letters, rows, labels = small
    logs = []
    allowed = [verdict]
    for left in range(number, 0, -1):
        low = next_path(small, found, low, allowed, left)
        logs.append(log_of(letters, low))
        last = labels[state_after(rows, 0, low)]
        allowed = [one for one in found[0] if one != last]
    return tuple(logs)


def tower_above(judge, verdict, number, *, start=()):
    """The tower of this height with the verdict in front and above a log, each log the first possible one."""
    check_judge(judge)
    check_verdict(judge, verdict)
    check_round(number)
    check_log_over(judge[0], start)
    found = rounds_of(judge)
    low = path_of(judge[0], start)
    rows, goods = round_at(found, number)[verdict]
    if not goods[state_after(rows, 0, low)]:
        raise InvalidOperation("there is no such tower")
    return tower_of(judge, found, verdict, number, low)


def greatest_of(judge, found):
    """The union of the rounds at rest."""
    return Logs((judge[0],) + united_table(len(judge[0]), found[-1]))


def highest_tower(judge, verdict):
    """The tower with the height of the verdict, each log of which is the first possible one."""
    check_judge(judge)
    check_verdict(judge, verdict)
    found = rounds_of(judge)
    many = times_inside(found, verdict, ())
    if many is None:
        swing = greatest_of(judge, found)
        raise Unlimited(swing)
    return tower_of(judge, found, verdict, many, ())


def height_paper(judge, verdict):
    """A height paper of the verdict."""
    check_judge(judge)
    check_verdict(judge, verdict)
    found = rounds_of(judge)
    many = times_inside(found, verdict, ())
    if many is not None:
        covers = tuple([sets_of(judge, tables) for tables in found[:many + 1]])
        return ("height", tower_of(judge, found, verdict, many, ()), covers)
    swing = greatest_of(judge, found)
    letters, rows, good = swing.machine
    # no first log needs more events than there are pairs of states
    path = path_above(judge, (), [verdict], (rows, good), len(rows) * len(judge[1]))
    return ("swing", swing, log_of(letters, path))


def is_height_paper(judge, verdict, value):
    """Whether the value is a height paper of the verdict."""
    check_judge(judge)
    check_verdict(judge, verdict)
    if not isinstance(value, tuple) or len(value) != 3:
        return False
    kind, one, other = value
    if kind == "height":
        if not is_tower_of(judge, one) or not are_covers(judge, other) or len(other) != len(one) + 1:
            return False
        return one != () and label_of(judge, one[0]) == verdict and not other[-1][verdict]
    if kind != "swing" or not is_swing_of(judge, one) or not is_long_log(judge[0], other):
        return False
    return label_of(judge, other) == verdict and label_of(one.machine, other)
