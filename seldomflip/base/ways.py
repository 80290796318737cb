"""How logs occur in one another, for values that are known to be logs."""


def first_way(log, other):
    """The way of the log in the other one with each position as early as possible, or None."""
    places = []
    for at, event in enumerate(other):
        if len(places) == len(log):
            break
        if event == log[len(places)]:
            places.append(at)
    return tuple(places) if len(places) == len(log) else None


def last_way(log, other):
    """The way of the log in the other one with each position as late as possible, or None."""
    way = first_way(log[::-1], other[::-1])
    if way is None:
        return None
    return tuple([len(other) - 1 - at for at in way[::-1]])


def is_below(log, other):
    """Whether the log occurs in the other one."""
    return first_way(log, other) is not None


def in_order(logs):
    """The different logs of a row, in the order of logs."""
    pairs = sorted({(len(log), log) for log in logs})
    return tuple([log for _, log in pairs])


def lengths_above(log, other):
    """For each i and k the length of the shortest log above log[i:] and other[k:]."""
    rows = [[len(other) - k for k in range(len(other) + 1)]]
    for i in reversed(range(len(log))):
        behind = rows[-1]
        row = [len(log) - i]
        for k in reversed(range(len(other))):
            # the row grows from its end, so its last item is the one for k + 1
            if log[i] == other[k]:
                row.append(behind[k + 1] + 1)
            else:
                row.append(min(behind[k], row[-1]) + 1)
        rows.append(row[::-1])
    return rows[::-1]


def shortest_above(log, other):
    """The first log above both, however long it is."""
    lengths = lengths_above(log, other)
    found = []
    i = 0
    k = 0
    while i < len(log) and k < len(other):
        one = lengths[i + 1][k]
        two = lengths[i][k + 1]
        if log[i] == other[k]:
            found.append(log[i])
            i += 1
            k += 1
        elif one < two or (one == two and log[i] < other[k]):
            found.append(log[i])
            i += 1
        else:
            found.append(other[k])
            k += 1
    return tuple(found) + log[i:] + other[k:]


def grown(log, insertions):
    """The log behind the insertions, and the places of the old events in it."""
    rows = [[] for _ in range(len(log) + 1)]
    for gap, letter in insertions:
        rows[gap].append(letter)
    end = []
    kept = []
    for at, row in enumerate(rows):
        end.extend(row)
        if at < len(log):
            kept.append(len(end))
            end.append(log[at])
    return tuple(end), tuple(kept)


def insertions_of(end, kept):
    """The insertions after which the end is there, with the old events at the kept places."""
    found = []
    gap = 0
    for at, event in enumerate(end):
        if gap < len(kept) and kept[gap] == at:
            gap += 1
        else:
            found.append((gap, event))
    return tuple(found)


def next_places(log, letters):
    """For each position, and the end, the next place of each letter; len(log) if there is none."""
    row = [len(log) for _ in letters]
    rows = [row]
    for at in reversed(range(len(log))):
        row = [at if letter == log[at] else place for letter, place in zip(letters, row)]
        rows.append(row)
    return rows[::-1]
