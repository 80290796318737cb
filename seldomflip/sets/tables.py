"""Tables: a row with the next states for each state, and a label for each state.

Operators of sets use these functions, so each of them changes only what it made itself.
"""

from seldomflip.errors import TooMany


def check_size(many, most):
    """Refuses more states than a result may have."""
    if many > most:
        raise TooMany(most)


def state_after(rows, begin, path):
    """The state behind a path, which tells a place in the row for each event."""
    state = begin
    for at in path:
        state = rows[state][at]
    return state


def reached(rows, begin):
    """The states to which logs lead from one of them, by their first logs."""
    order = [begin]
    known = {begin: True}
    at = 0
    while at < len(order):
        row = rows[order[at]]
        at += 1
        for following in row:
            if following not in known:
                known[following] = True
                order.append(following)
    return order


def states_before(rows):
    """For each state the states from which one event leads to it."""
    before = [[] for _ in rows]
    for state, row in enumerate(rows):
        for following in row:
            before[following].append(state)
    return before


def classes_of(rows, labels, most):
    """The class of each state; states share one exactly if no log parts their labels.

    Only states ahead of those whose class is new can part next, and the largest part keeps the
    class, so that few states are looked at again. More classes than the most are refused.
    """
    names = {}
    for label in labels:
        names.setdefault(label, len(names))
    classes = [names[label] for label in labels]
    sizes = [0 for _ in names]
    for name in classes:
        sizes[name] = sizes[name] + 1
    before = states_before(rows)
    moved = list(range(len(rows)))
    while moved:
        groups = {}
        for state in sorted({one for following in moved for one in before[following]}):
            key = tuple([classes[following] for following in rows[state]])
            groups.setdefault((classes[state], key), []).append(state)
        parts = {}
        for key in groups:
            parts.setdefault(key[0], []).append(groups[key])
        moved = []
        for name in parts:
            split = sorted(parts[name], key=len)
            if sum([len(states) for states in split]) == sizes[name]:
                split = split[:-1]
            for states in split:
                sizes[name] = sizes[name] - len(states)
                for state in states:
                    classes[state] = len(sizes)
                sizes.append(len(states))
                moved.extend(states)
        check_size(len(sizes), most)
    return classes


def renumbered(rows, labels, begin):
    """The same table with only the states that logs reach, numbered by their first logs."""
    order = reached(rows, begin)
    place = {state: at for at, state in enumerate(order)}
    found = [tuple([place[following] for following in rows[state]]) for state in order]
    return tuple(found), tuple([labels[state] for state in order])


def smallest_table(rows, labels, begin, most):
    """The least table in which each log has the same label; more states than the most are refused."""
    near, known = renumbered(rows, labels, begin)
    classes = classes_of(near, known, most)
    firsts = {}
    for state, name in enumerate(classes):
        firsts.setdefault(name, state)
    # the first state of a class has the first log of the class, so the classes are met in order
    place = {name: at for at, name in enumerate(firsts)}
    kept = list(firsts.values())
    found = [tuple([place[classes[following]] for following in near[state]]) for state in kept]
    return tuple(found), tuple([known[state] for state in kept])


def paired(rows, others):
    """The pairs of states to which logs lead, by their first logs, and the rows of the pairs."""
    pairs = [(0, 0)]
    number = {(0, 0): 0}
    table = []
    at = 0
    while at < len(pairs):
        one, other = pairs[at]
        at += 1
        row = []
        for pair in zip(rows[one], others[other]):
            if pair not in number:
                number[pair] = len(pairs)
                pairs.append(pair)
            row.append(number[pair])
        table.append(row)
    return pairs, table


def read_path(came, config):
    """The path by which a config was met first."""
    path = []
    while came[config] is not None:
        config, at = came[config]
        path.append(at)
    return tuple(path[::-1])


def first_path(begin, width, step, is_end):
    """The path of the first log that leads to an end, or None; a step that leads nowhere gives None."""
    if is_end(begin):
        return ()
    came = {begin: None}
    queue = [begin]
    at = 0
    while at < len(queue):
        config = queue[at]
        at += 1
        for letter in range(width):
            following = step(config, letter)
            if following is not None and following not in came:
                came[following] = (config, letter)
                if is_end(following):
                    return read_path(came, following)
                queue.append(following)
    return None


def last_first(rows, begins):
    """The states that can be reached, each one behind those it leads to, but for loops."""
    order = []
    known = {}
    for begin in begins:
        stack = [(begin, 0)]
        if begin in known:
            stack = []
        known[begin] = True
        while stack:
            state, at = stack.pop()
            if at == len(rows[state]):
                order.append(state)
            else:
                stack.append((state, at + 1))
                following = rows[state][at]
                if following not in known:
                    known[following] = True
                    stack.append((following, 0))
    return order


def live_states(rows, goods):
    """For each state whether some log leads from it to a good one."""
    before = states_before(rows)
    live = list(goods)
    stack = [state for state, is_good in enumerate(goods) if is_good]
    while stack:
        following = stack.pop()
        for state in before[following]:
            if not live[state]:
                live[state] = True
                stack.append(state)
    return live
