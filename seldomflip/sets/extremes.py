"""Least tables of the minimal and the maximal logs of a set.

A config is a pair: the state behind a log, and the mask of the states behind the other logs that
occur in it, or in which it occurs. None stands for no log at all.
"""

from seldomflip.sets.masks import columns_before, image_of, true_mask
from seldomflip.sets.settling import settled
from seldomflip.sets.spreads import PATIENCE, Falling, Live, Rising
from seldomflip.sets.tables import live_states


def states_entering(rows):
    """For each state and letter the states from which the letter leads to it."""
    found = [[[] for _ in rows[0]] for _ in rows]
    for state, row in enumerate(rows):
        for at, following in enumerate(row):
            found[following][at].append(state)
    return found


def masks_that_matter(rows, goods, first, ahead):
    """For each state the mask of the states that can lead to a good one beside it, on some log.

    The mask first is that of the states which do so beside a good state, without events, and the
    call ahead tells which ones lead to a mask with one event more.
    """
    entering = states_entering(rows)
    found = [first if is_good else 0 for is_good in goods]
    fresh = list(found)
    stack = [state for state, mask in enumerate(found) if mask]
    while stack:
        following = stack.pop()
        mask = fresh[following]
        fresh[following] = 0
        for at, states in enumerate(entering[following]):
            wider = ahead(mask, at) if states else 0
            for state in states:
                if wider & ~found[state]:
                    if not fresh[state]:
                        stack.append(state)
                    fresh[state] |= wider & ~found[state]
                    found[state] |= wider
    return found


class Minimal:
    """The configs of the minimal logs."""

    def __init__(self, rows, goods):
        self.width = len(rows[0])
        self._rows = rows
        self._before = columns_before(rows)
        self._goods = goods
        self._good_mask = true_mask(goods)
        self._live = live_states(rows, goods)
        self._columns = [[1 << row[at] for row in rows] for at in range(self.width)]
        self._matter = masks_that_matter(rows, goods, self._good_mask, self._mask_ahead)
        self._rising = Rising(rows, goods)
        self.first_config = (0, 0) if self._live[0] else None

    def _mask_ahead(self, mask, at):
        """The mask of the states of the mask, and of those from which the event leads to one of them."""
        return mask | image_of(mask, self._before[at])

    def _config(self, state, mask):
        """The config of a state and a mask, or None."""
        # what leads from the state to a good one would also do so without some events
        if not self._live[state] or mask & (self._good_mask | 1 << state):
            return None
        return (state, mask & self._matter[state])

    def _mask_behind(self, config, at):
        """The mask of the states behind the logs that occur in that of a config with one event more."""
        state, mask = config
        return mask | image_of(mask, self._columns[at]) | 1 << state

    def behind(self, config, at):
        """The config behind one event more."""
        if config is None:
            return None
        return self._config(self._rows[config[0]][at], self._mask_behind(config, at))

    def filled_behind(self, config, at):
        """The config behind one event more, with the states that add nothing."""
        if config is None:
            return None
        return self._config(self._rows[config[0]][at], self._rising.filled(self._mask_behind(config, at)))

    def is_good(self, config):
        """Whether the log of the config is minimal."""
        return config is not None and self._goods[config[0]]


class Maximal:
    """The configs of the maximal logs."""

    def __init__(self, rows, goods):
        falling = Falling(rows, [0])
        self.width = len(rows[0])
        self._falling = falling
        self._goods = [goods[state] for state in falling.order]
        self._good_mask = true_mask(self._goods)
        self._live = Live(falling, self._good_mask)
        self._matter = masks_that_matter(falling.rows, self._goods, self._live.goods, falling.ahead)
        self._later = [self._mask_later(row) for row in falling.rows]
        begin = falling.place[0]
        self.first_config = self._config(begin, self._later[begin])

    def _mask_later(self, row):
        """The mask of the states to which one or more events lead, by the row of the first one."""
        found = 0
        for following in row:
            found |= self._falling.reach[following]
        return found

    def _config(self, state, mask):
        """The config of a state and a mask, or None."""
        # what leads from the state to a good one would also do so with more events
        if not self._matter[state] or mask >> state & 1:
            return None
        return (state, mask & self._matter[state])

    def behind(self, config, at):
        """The config behind one event more."""
        if config is None:
            return None
        state = self._falling.rows[config[0]][at]
        return self._config(state, self._falling.behind(config[1], at) | self._later[state])

    def filled_behind(self, config, at):
        """The config behind one event more, with the states that add nothing."""
        if config is None:
            return None
        state = self._falling.rows[config[0]][at]
        mask = self._falling.behind(config[1], at) | self._later[state]
        return self._config(state, self._live.filled(mask & self._live.goods))

    def is_good(self, config):
        """Whether the log of the config is maximal."""
        return config is not None and self._goods[config[0]] and config[1] & self._good_mask == 0


def least_extremes(configs, most):
    """Rows and good states of the least table of the logs of the configs."""
    found = settled(configs.first_config, configs.width, configs.behind, configs.is_good, most, PATIENCE)
    if found is None:
        found = settled(configs.first_config, configs.width, configs.filled_behind, configs.is_good, most, None)
    return found


def minimal_table(rows, goods, most):
    """Rows and good states of the least table of the good logs above no other good log."""
    return least_extremes(Minimal(rows, goods), most)


def maximal_table(rows, goods, most):
    """Rows and good states of the least table of the good logs below no other good log."""
    return least_extremes(Maximal(rows, goods), most)
