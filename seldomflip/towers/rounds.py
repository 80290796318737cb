"""The rounds of the verdicts of a judge, as rows and good states of least tables."""

from seldomflip.judges.judges import verdicts_in
from seldomflip.sets.machines import MAX_STATES, least_of
from seldomflip.sets.masks import mask_of
from seldomflip.sets.spreads import Falling, Live, below_table, least_spread
from seldomflip.sets.tables import check_size


def first_round(judge, verdicts):
    """For each verdict the logs below a log that has it."""
    _, rows, labels = judge
    return {verdict: below_table(rows, [one == verdict for one in labels], 0, MAX_STATES) for verdict in verdicts}


class Inside:
    """The logs of sets that are closed downward, with the states of a judge behind them.

    Each state is a triple: the name of a set, the state of the judge, and a good one of the set. All
    other logs lead to the state 0. The sets are told by a dict from names to rows and good states.
    """

    def __init__(self, rows, tables):
        names = [name for name in tables if tables[name][1][0]]
        self.states = [None] + [(name, 0, 0) for name in names]
        number = {state: at for at, state in enumerate(self.states)}
        self.rows = [[0 for _ in rows[0]]]
        while len(self.rows) < len(self.states):
            name, one, other = self.states[len(self.rows)]
            others, goods = tables[name]
            row = []
            for pair in zip(rows[one], others[other]):
                state = (name,) + pair if goods[pair[1]] else None
                if state not in number:
                    number[state] = len(self.states)
                    self.states.append(state)
                row.append(number[state])
            self.rows.append(row)
        self._begins = list(range(1, 1 + len(names)))
        self.falling = Falling(self.rows, self._begins)

    def mask_with(self, labels, wanted):
        """The mask of the states at which the judge has a label that is wanted for their set."""
        found = []
        for place, number in enumerate(self.falling.order):
            if number != 0 and labels[self.states[number][1]] in wanted[self.states[number][0]]:
                found.append(place)
        return mask_of(found)

    def begin_mask(self):
        """The mask at the beginning."""
        found = 0
        for at in self._begins:
            found |= self.falling.reach[self.falling.place[at]]
        return found


def next_round(judge, verdicts, tables):
    """For each verdict the logs below a log that has it and is in the round before of another verdict."""
    _, rows, labels = judge
    inside = Inside(rows, tables)
    begin = inside.begin_mask()
    found = {}
    for verdict in verdicts:
        wanted = {name: () if name == verdict else (verdict,) for name in verdicts}
        live = Live(inside.falling, inside.mask_with(labels, wanted))
        found[verdict] = least_spread(live, begin & live.goods, MAX_STATES)
    return found


def all_rounds(judge, most):
    """The rounds up to the first one at rest; no more than so many come before that one."""
    verdicts = verdicts_in(judge)
    small = least_of(judge)
    found = [first_round(small, verdicts)]
    following = next_round(small, verdicts, found[0])
    while following != found[-1]:
        found.append(following)
        check_size(len(found) - 1, most)
        following = next_round(small, verdicts, following)
    return found


def united_table(width, tables):
    """Rows and good states of the least table of the logs that are in one of the sets."""
    inside = Inside([(0,) * width], tables)
    live = Live(inside.falling, inside.mask_with([True], {name: (True,) for name in tables}))
    return least_spread(live, inside.begin_mask() & live.goods, MAX_STATES)
