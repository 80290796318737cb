"""Machines, which tell regular sets of logs."""

from seldomflip.base.checks import check_number, is_ascending, is_whole
from seldomflip.base.logs import check_events, is_any_log, is_letters
from seldomflip.errors import InvalidLog, InvalidMachine, InvalidOperation
from seldomflip.sets.masks import bits_of, mask_of
from seldomflip.sets.tables import (
    check_size, classes_of, first_path, paired, renumbered, smallest_table, state_after)

MAX_STATES = 200


def are_rows(letters, value, most):
    """Whether the value has rows with the next state for each letter, at most so many of them."""
    if not isinstance(value, tuple) or not 1 <= len(value) <= most:
        return False
    for row in value:
        if not isinstance(row, tuple) or len(row) != len(letters):
            return False
        for state in row:
            if not is_whole(state) or not 0 <= state < len(value):
                return False
    return True


def is_machine(value):
    """Whether the value is a machine."""
    if not isinstance(value, tuple) or len(value) != 3:
        return False
    letters, rows, good = value
    if not is_letters(letters) or not are_rows(letters, rows, MAX_STATES):
        return False
    if not isinstance(good, tuple) or len(good) != len(rows):
        return False
    return all([isinstance(one, bool) for one in good])


def check_machine(value):
    """Refuses what is no machine."""
    if not is_machine(value):
        raise InvalidMachine("a machine is a tuple of letters, rows of next states and good states")


def is_log_over(letters, value):
    """Whether the value is a log of at most 200 events, all of them from these letters."""
    return is_any_log(value) and all([event in letters for event in value])


def check_log_over(letters, value):
    """Refuses what is no log of these letters."""
    if not is_log_over(letters, value):
        raise InvalidLog("a log is a tuple of at most 200 of these letters")


def check_letters_of(one, other):
    """Refuses machines, or judges, with different letters."""
    if one[0] != other[0]:
        raise InvalidOperation("the letters differ")


def check_two(machine, other):
    """Refuses what are no machines with the same letters."""
    check_machine(machine)
    check_machine(other)
    check_letters_of(machine, other)


def path_of(letters, log):
    """The place in the rows for each event of the log."""
    return [letters.index(event) for event in log]


def log_of(letters, path):
    """The log with these places in the rows."""
    return tuple([letters[at] for at in path])


def state_of(machine, log):
    """The state behind the log."""
    letters, rows, _ = machine
    return state_after(rows, 0, path_of(letters, log))


def label_of(machine, log):
    """The label of the state behind the log."""
    return machine[2][state_of(machine, log)]


def least_of(machine):
    """The least machine, or judge, in which each log has the same label."""
    letters, rows, labels = machine
    small_rows, small_labels = smallest_table(rows, labels, 0, len(rows))
    return letters, small_rows, small_labels


def least(machine):
    """The least machine with the same set."""
    check_machine(machine)
    return least_of(machine)


def is_least(machine):
    """Whether no other machine with the same set is smaller, and its states stand in order."""
    check_machine(machine)
    return least_of(machine) == machine


def turned(machine):
    """The least machine of the logs whose events, in reverse order, are a log of the set."""
    check_machine(machine)
    letters, rows, good = least_of(machine)
    before = [[0 for _ in letters] for _ in rows]
    for state, row in enumerate(rows):
        for at, following in enumerate(row):
            before[following][at] |= 1 << state
    # the states from which the reversed log leads to a good one; as each state of the machine is
    # reached, different ones of these sets are never alike
    masks = [mask_of([state for state, is_good in enumerate(good) if is_good])]
    number = {masks[0]: 0}
    table = []
    while len(table) < len(masks):
        members = bits_of(masks[len(table)])
        row = []
        for at in range(len(letters)):
            mask = 0
            for state in members:
                mask |= before[state][at]
            if mask not in number:
                number[mask] = len(masks)
                masks.append(mask)
                check_size(len(masks), MAX_STATES)
            row.append(number[mask])
        table.append(row)
    found, labels = renumbered(table, [(mask & 1) == 1 for mask in masks], 0)
    return letters, found, labels


def state_behind(machine, log, *, begin=0):
    """The state to which the log leads from the state begin."""
    check_machine(machine)
    letters, rows, _ = machine
    check_log_over(letters, log)
    check_number(begin, 0, len(rows) - 1)
    return state_after(rows, begin, path_of(letters, log))


def contains(machine, log):
    """Whether the log is in the set of the machine."""
    check_machine(machine)
    check_log_over(machine[0], log)
    return label_of(machine, log)


def first_paths(rows):
    """The path of the first log that leads to each state, None where no log does."""
    paths = [None for _ in rows]
    paths[0] = ()
    queue = [0]
    at = 0
    while at < len(queue):
        state = queue[at]
        at += 1
        for place, following in enumerate(rows[state]):
            if paths[following] is None:
                paths[following] = paths[state] + (place,)
                queue.append(following)
    return paths


def first_logs(machine):
    """The first log of each state, None where no log leads to it."""
    check_machine(machine)
    letters, rows, _ = machine
    return tuple([None if path is None else log_of(letters, path) for path in first_paths(rows)])


def alike_states(machine):
    """The states in tuples of those that no log parts."""
    check_machine(machine)
    _, rows, good = machine
    groups = {}
    for state, name in enumerate(classes_of(rows, good, len(rows))):
        groups.setdefault(name, []).append(state)
    return tuple(sorted([tuple(states) for states in groups.values()]))


def parting_path(rows, labels, others, other_labels, pair):
    """The path of the first log that leads from the pair to states with different labels, or None."""
    def step(states, at):
        return rows[states[0]][at], others[states[1]][at]

    def is_parted(states):
        return labels[states[0]] != other_labels[states[1]]

    return first_path(pair, len(rows[0]), step, is_parted)


def parting_states(machine, state, other):
    """The first log that leads from exactly one of two states to a good state, or None."""
    check_machine(machine)
    letters, rows, good = machine
    check_number(state, 0, len(rows) - 1)
    check_number(other, 0, len(rows) - 1)
    path = parting_path(rows, good, rows, good, (state, other))
    return None if path is None else log_of(letters, path)


def merged_of(machine, other, wanted):
    """The least machine of the logs for which wanted has True, by both, first, second, neither."""
    both, first, second, neither = wanted
    letters, rows, good = machine
    _, others, other_good = other
    pairs, table = paired(rows, others)
    worth = {(True, True): both, (True, False): first, (False, True): second, (False, False): neither}
    labels = [worth[(good[one], other_good[two])] for one, two in pairs]
    found, found_labels = smallest_table(table, labels, 0, MAX_STATES)
    return letters, found, found_labels


def merged(machine, other, *, both=True, first=False, second=False, neither=False):
    """The least machine of the logs that are contained as the keywords tell."""
    check_machine(machine)
    check_machine(other)
    wanted = (both, first, second, neither)
    for one in wanted:
        if not isinstance(one, bool):
            raise InvalidOperation("both, first, second and neither are True or False")
    check_letters_of(machine, other)
    return merged_of(least_of(machine), least_of(other), wanted)


def parting_of(machine, other):
    """The first log that has different labels by two machines, or two judges, or None."""
    letters, rows, labels = machine
    _, others, other_labels = other
    path = parting_path(rows, labels, others, other_labels, (0, 0))
    return None if path is None else log_of(letters, path)


def parting_log(machine, other):
    """The first log that exactly one of the machines contains, or None."""
    check_two(machine, other)
    log = parting_of(machine, other)
    if log is not None:
        check_events(len(log))
    return log


def same_pairs(machine, other):
    """The pairs of states to which logs lead, as a comparison tells them."""
    pairs, _ = paired(machine[1], other[1])
    return tuple(sorted(pairs))


def comparison(machine, other):
    """A comparison of the machines."""
    log = parting_log(machine, other)
    if log is None:
        return ("same", same_pairs(machine, other))
    return ("parted", log)


def are_pairs(value, many, other_many):
    """Whether the value is an ascending tuple of pairs of states, of so many and of so many."""
    if not isinstance(value, tuple):
        return False
    for pair in value:
        if not isinstance(pair, tuple) or len(pair) != 2 or not all([is_whole(state) for state in pair]):
            return False
        if not 0 <= pair[0] < many or not 0 <= pair[1] < other_many:
            return False
    return is_ascending(value)


def are_going_on(pairs, rows, others):
    """Whether with each pair the pair of the next states for each letter is one of them, too."""
    known = {pair: True for pair in pairs}
    for one, other in pairs:
        for pair in zip(rows[one], others[other]):
            if pair not in known:
                return False
    return True


def are_same_pairs(machine, other, value):
    """Whether the value is pairs that show that each log has the same label by both."""
    _, rows, labels = machine
    _, others, other_labels = other
    if not are_pairs(value, len(rows), len(others)) or value[:1] != ((0, 0),):
        return False
    if any([labels[one] != other_labels[two] for one, two in value]):
        return False
    return are_going_on(value, rows, others)


def parts(machine, other, value):
    """Whether the value is a log of at most 200 events with different labels by both."""
    return is_log_over(machine[0], value) and label_of(machine, value) != label_of(other, value)


def is_comparison(machine, other, value):
    """Whether the value is a comparison of the machines."""
    check_two(machine, other)
    if not isinstance(value, tuple) or len(value) != 2:
        return False
    if value[0] == "same":
        return are_same_pairs(machine, other, value[1])
    return value[0] == "parted" and parts(machine, other, value[1])
