"""Rules, for values that anyone may have made, and the stands of logs for their patterns."""

from seldomflip.sets.machines import is_log_over
from seldomflip.sets.tables import check_size


def rules_inside(value):
    """The parts of the value that must be rules if it is one, or None if it is none in any case."""
    word = value[0]
    if word == "not" and len(value) == 2:
        return value[1:]
    return value[1:] if word in ("and", "or") and len(value) > 2 else None


def patterns_in(letters, value, levels, most):
    """The patterns of a rule with at most so many levels and patterns, as a list; None if the value is none."""
    if levels == 0 or not isinstance(value, tuple) or value == ():
        return None
    if value[0] == "occurs":
        return [value[1]] if len(value) == 2 and is_log_over(letters, value[1]) else None
    parts = rules_inside(value)
    if parts is None:
        return None
    found = []
    for part in parts:
        more = patterns_in(letters, part, levels - 1, most - len(found))
        if more is None or len(found) + len(more) > most:
            return None
        found.extend(more)
    return found


def worth_of(rule, known):
    """Whether the rule holds if just those of its patterns hold that have True."""
    if rule[0] == "occurs":
        return known[rule[1]]
    if rule[0] == "not":
        return not worth_of(rule[1], known)
    found = [worth_of(part, known) for part in rule[1:]]
    return all(found) if rule[0] == "and" else any(found)


def stands_for(letters, logs, most):
    """The stands of all logs for the patterns, by their first logs, and their rows; more of them are refused."""
    steps = [[[at + 1 if at < len(log) and log[at] == letter else at for at in range(len(log) + 1)] for log in logs]
             for letter in letters]
    stands = [(0,) * len(logs)]
    place = {stands[0]: 0}
    rows = []
    while len(rows) < len(stands):
        stand = stands[len(rows)]
        row = []
        for moves in steps:
            following = tuple([move[at] for move, at in zip(moves, stand)])
            if following not in place:
                place[following] = len(stands)
                stands.append(following)
                check_size(len(stands), most)
            row.append(place[following])
        rows.append(row)
    return stands, rows


def rules_table(letters, rules, logs, most):
    """The rows of the stands for the patterns of the rules, and for each stand whether each of the rules holds."""
    stands, rows = stands_for(letters, logs, most)
    worths = []
    for stand in stands:
        known = {log: at == len(log) for log, at in zip(logs, stand)}
        worths.append(tuple([worth_of(rule, known) for rule in rules]))
    return rows, worths
