"""Tables of finite sets of logs."""


def tree_of(letters, logs):
    """The rows of the tree of the logs, with None where no log goes on, and where logs end."""
    place = {letter: at for at, letter in enumerate(letters)}
    rows = [[None for _ in letters]]
    goods = [False]
    for log in logs:
        node = 0
        for event in log:
            at = place[event]
            if rows[node][at] is None:
                rows[node][at] = len(rows)
                rows.append([None for _ in letters])
                goods.append(False)
            node = rows[node][at]
        goods[node] = True
    return rows, goods


def listed_table(letters, logs):
    """Rows and good states of the logs, no two states alike, and the state where logs begin.

    The state 0 leads nowhere.
    """
    tree, ends = tree_of(letters, logs)
    rows = [(0,) * len(letters)]
    goods = [False]
    number = {(False, rows[0]): 0}
    place = [0 for _ in tree]
    # the nodes behind a node were made behind it
    for node in reversed(range(len(tree))):
        row = tuple([0 if following is None else place[following] for following in tree[node]])
        key = (ends[node], row)
        if key not in number:
            number[key] = len(rows)
            rows.append(row)
            goods.append(ends[node])
        place[node] = number[key]
    return rows, goods, place[0]
