"""Spreads: which states of a table can be behind a log once events are put in, or left out, anywhere.

Different masks can stand for the same logs. Where this gets in the way, a mask is filled with the
states that add no logs to it, as far as can be seen from single states: a state is under another one
if it is no better, and each event leads from it to a state under one to which the other one can go.
"""

from seldomflip.sets.guessing import first_tests, guess, guessed, more_tests
from seldomflip.sets.masks import columns_before, image_of, true_mask, united
from seldomflip.sets.settling import settled
from seldomflip.sets.tables import last_first, live_states, renumbered, states_before

PATIENCE = 1000
MORE_PATIENCE = 20000


def masks_going_out(rows, goal):
    """For each letter the mask of the states from which it leads to no state of the goal, a mask."""
    width = len(rows[0]) if rows else 0
    return [true_mask([not goal >> row[at] & 1 for row in rows]) for at in range(width)]


class Rising:
    """The states behind the logs that occur in a log, as masks.

    A mask with a good state stands for all logs; it is then the mask of all good states.
    """

    def __init__(self, rows, goods):
        self._rows = rows
        self._live = true_mask(live_states(rows, goods))
        self.width = len(rows[0])
        self.goods = true_mask(goods)
        self._columns = [[1 << row[at] & self._live for row in rows] for at in range(self.width)]
        self._before = None
        self._under = None

    def begin_mask(self):
        """The mask at the beginning."""
        return self.goods if self.goods & 1 else self._live & 1

    def behind(self, mask, at):
        """The mask behind one event more."""
        found = mask | image_of(mask, self._columns[at])
        return self.goods if found & self.goods else found

    def ahead(self, mask, at):
        """The states from which one event more leads to a state of the mask."""
        if self._before is None:
            self._before = columns_before(self._rows)
        return mask | image_of(mask, self._before[at])

    def filled(self, mask):
        """The mask with the states that add no logs to it."""
        if self._under is None:
            self._under = self._states_under()
        return self.goods if mask & self.goods else image_of(mask, self._under)

    def _states_under(self):
        """For each state the mask of those under it."""
        before = columns_before(self._rows)
        out = masks_going_out(self._rows, self._live)
        others = self._live & ~self.goods
        under = [self._live if self.goods >> state & 1 else others for state in range(len(self._rows))]
        changed = True
        while changed:
            changed = False
            for state in reversed(range(len(self._rows))):
                mask = under[state]
                if not self.goods >> state & 1:
                    for at, following in enumerate(self._rows[state]):
                        mask &= out[at] | image_of(under[state] | under[following], before[at])
                if mask != under[state]:
                    under[state] = mask
                    changed = True
        return under


class Falling:
    """The states behind the logs in which a log occurs, as masks.

    A mask contains with a state all that it leads to. The states are numbered anew, so that the
    least state of a mask is reached from no others of it but those that it leads to itself.
    """

    def __init__(self, rows, begins):
        self.order = last_first(rows, begins)[::-1]
        self.place = {state: at for at, state in enumerate(self.order)}
        self.rows = [[self.place[following] for following in rows[state]] for state in self.order]
        self.width = len(rows[0])
        self._leading = None
        self._sources = {}
        self.reach = self.united([1 << state for state in range(len(self.order))])
        self._images = [self.united([self.reach[row[at]] for row in self.rows]) for at in range(self.width)]

    def united(self, masks):
        """For each state the union of the masks of the states that can be reached from it."""
        return united(self.rows, masks, list(range(len(self.rows)))[::-1])

    def leading(self):
        """For each state the mask of the states that lead to it."""
        if self._leading is None:
            states = list(range(len(self.rows)))
            self._leading = united(states_before(self.rows), [1 << state for state in states], states)
        return self._leading

    def _sources_of(self, at):
        """For each state the mask of those from which the letter, perhaps later, leads to it or ahead of it."""
        if at not in self._sources:
            leading = self.leading()
            masks = [0 for _ in self.rows]
            for state, row in enumerate(self.rows):
                masks[row[at]] |= leading[state]
            self._sources[at] = united(states_before(self.rows), masks, list(range(len(self.rows))))
        return self._sources[at]

    def over(self, mask, columns):
        """The union of what the columns tell for a mask, where a state tells all that those after it tell."""
        found = 0
        while mask:
            low = mask & -mask
            state = low.bit_length() - 1
            found |= columns[state]
            mask &= ~self.reach[state]
        return found

    def against(self, mask, columns):
        """The same, where a state tells all that those tell which lead to it."""
        leading = self.leading()
        found = 0
        while mask:
            state = mask.bit_length() - 1
            found |= columns[state]
            mask &= ~leading[state]
        return found

    def behind(self, mask, at):
        """The mask behind one event more."""
        return self.over(mask, self._images[at])

    def ahead(self, mask, at):
        """The states from which one event more leads to a mask that contains with a state all that lead to it."""
        return self.against(mask, self._sources_of(at))

    def leading_to(self, mask):
        """The mask of the states that lead to one of the mask."""
        return true_mask([reached & mask for reached in self.reach])


class Live:
    """The masks of a falling spread with just the states that lead to a good one."""

    def __init__(self, falling, good_mask):
        self.width = falling.width
        self.goods = falling.leading_to(good_mask)
        self._falling = falling
        self._under = None

    def behind(self, mask, at):
        """The mask behind one event more."""
        return self._falling.behind(mask, at) & self.goods

    def ahead(self, mask, at):
        """The states from which one event more leads to a state of the mask."""
        return self._falling.ahead(mask, at) & self.goods

    def filled(self, mask):
        """The mask with the states that add no logs to it."""
        if self._under is None:
            self._under = Under(self._falling, self.goods).masks
        return self._falling.over(mask, self._under)


class Under:
    """For each state of a falling spread the mask of those under it, of which all lead to a good one.

    Here all states that can be reached count as those to which one can go, and with a state all that
    it leads to is under another one.
    """

    def __init__(self, falling, live):
        rows = falling.rows
        self._falling = falling
        self._live = live
        self._before = [falling.united(columns) for columns in columns_before(rows)]
        self._out = masks_going_out(rows, live)
        self.masks = [0 for _ in rows]
        # for each letter and state the mask of those from which the letter leads to one under the state
        self._fitting = [{} for _ in range(falling.width)]
        # the same for the states to which the letter, perhaps later, leads from the state
        self._ahead = [[0 for _ in rows] for _ in range(falling.width)]
        groups = {}
        for state in range(len(rows)):
            groups.setdefault(falling.reach[state], []).append(state)
        # the states of a group lead to one another; a group whose first state is later leads to none before it
        for reached in list(groups)[::-1]:
            if reached & live:
                self._settle(groups[reached])

    def _settle(self, states):
        """Finds the mask of the states of a group, from the greatest one on."""
        inside = {state: True for state in states}
        letters = range(self._falling.width)
        fixed = [self._out[at] | self._settled_ahead(states, inside, at) for at in letters]
        is_inner = [any([self._falling.rows[state][at] in inside for state in states]) for at in letters]
        mask = self._live
        worse = mask
        while worse:
            worse = 0
            whole = list(fixed)
            for at in letters:
                if is_inner[at]:
                    whole[at] |= self._falling.over(mask, self._before[at])
                worse |= mask & ~whole[at]
            mask &= ~self._falling.against(worse, self._falling.leading())
        for state in states:
            self.masks[state] = mask
            for at in letters:
                self._ahead[at][state] = whole[at]

    def _settled_ahead(self, states, inside, at):
        """The mask of those that fit to where the letter, perhaps later, leads from a group and out of it."""
        found = 0
        for state in states:
            row = self._falling.rows[state]
            if row[at] not in inside:
                found |= self._fitting_to(row[at], at)
            for following in row:
                if following not in inside:
                    found |= self._ahead[at][following]
        return found

    def _fitting_to(self, state, at):
        """The mask of the states from which the letter leads to one under this state."""
        if state not in self._fitting[at]:
            self._fitting[at][state] = self._falling.over(self.masks[state], self._before[at])
        return self._fitting[at][state]


def least_spread(spread, begin, most):
    """Rows and good states of the least table of the logs that are good from the mask."""
    def is_good(mask):
        return mask & spread.goods != 0

    def step(mask, at):
        return spread.filled(spread.behind(mask, at))

    found = settled(begin, spread.width, spread.behind, is_good, most, PATIENCE)
    if found is None:
        # quick where there are too many states
        tests, are_all = first_tests(spread)
        tests = tests if are_all else more_tests(spread, tests)
        masks, rows, _ = guess(spread.width, spread.behind, begin, tests, most)
        if are_all:
            return renumbered(rows, [is_good(mask) for mask in masks], 0)
        found = settled(spread.filled(begin), spread.width, step, is_good, most, MORE_PATIENCE)
        if found is None:
            found = guessed(spread, step, spread.filled(begin), tests, most)
    return found


def above_table(rows, goods, most):
    """Rows and good states of the least table of the logs above a good log."""
    spread = Rising(rows, goods)
    return least_spread(spread, spread.begin_mask(), most)


def below_table(rows, goods, begin, most):
    """Rows and good states of the least table of the logs below a good log."""
    falling = Falling(rows, [begin])
    spread = Live(falling, true_mask([goods[state] for state in falling.order]))
    return least_spread(spread, falling.reach[falling.place[begin]] & spread.goods, most)
