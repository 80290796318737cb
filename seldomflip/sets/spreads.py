"""Spreads: which states of a table can be behind a log once events are put in, or left out, anywhere."""

from seldomflip.sets.guessing import guessed
from seldomflip.sets.masks import columns_before, image_of, true_mask, turned_masks, united
from seldomflip.sets.settling import settled
from seldomflip.sets.tables import last_first, live_states

PATIENCE = 20000


class Rising:
    """The states behind the logs that occur in a log, as masks.

    A mask with a good state stands for all logs; it is then the mask of all good states.
    """

    def __init__(self, rows, goods):
        live = live_states(rows, goods)
        self.width = len(rows[0])
        self.goods = true_mask(goods)
        self._rows = rows
        self._columns = [[1 << row[at] if live[row[at]] else 0 for row in rows] for at in range(self.width)]
        self._before = None

    def entry(self, state):
        """The mask at the beginning, with one state."""
        return self.goods if self.goods >> state & 1 else 1 << state

    def behind(self, mask, at):
        """The mask behind one event more."""
        found = mask | image_of(mask, self._columns[at])
        return self.goods if found & self.goods else found

    def ahead(self, mask, at):
        """The states from which one event more leads to the mask."""
        if self._before is None:
            self._before = columns_before(self._rows)
        return mask | image_of(mask, self._before[at])


class Falling:
    """The states behind the logs in which a log occurs, as masks.

    A mask contains with a state all that it leads to. The states are numbered anew, so that the
    least state of a mask is reached from no others of it but those that it leads to itself.
    """

    def __init__(self, rows, begins):
        order = last_first(rows, begins)[::-1]
        self.place = {state: at for at, state in enumerate(order)}
        self.rows = [[self.place[following] for following in rows[state]] for state in order]
        self.order = order
        self.width = len(rows[0])
        self.reach = united(self.rows, [1 << state for state in range(len(order))])
        self._images = [united(self.rows, [self.reach[row[at]] for row in self.rows]) for at in range(self.width)]

    def behind(self, mask, at):
        """The mask behind one event more."""
        images = self._images[at]
        found = 0
        while mask:
            low = mask & -mask
            state = low.bit_length() - 1
            found |= images[state]
            mask &= ~self.reach[state]
        return found

    def leading_to(self, mask):
        """The mask of the states that lead to one of the mask."""
        found = 0
        for state, reached in enumerate(self.reach):
            if reached & mask:
                found |= 1 << state
        return found


class Live:
    """The masks of a falling spread with just the states that lead to a good one."""

    def __init__(self, falling, good_mask):
        self.width = falling.width
        self.goods = falling.leading_to(good_mask)
        self._falling = falling
        self._before = None
        self._leading = None

    def behind(self, mask, at):
        """The mask behind one event more."""
        return self._falling.behind(mask, at) & self.goods

    def ahead(self, mask, at):
        """The states from which one event more leads to the mask."""
        if self._before is None:
            self._before = columns_before(self._falling.rows)
            self._leading = turned_masks(self._falling.reach)
        return image_of(image_of(mask, self._before[at]), self._leading) & self.goods


def least_spread(spread, begin, most):
    """Rows and good states of the least table of the logs that are good from the mask."""
    def is_good(mask):
        return mask & spread.goods != 0

    found = settled(begin, spread.width, spread.behind, is_good, most, PATIENCE)
    return guessed(spread, begin, most) if found is None else found


def above_table(rows, goods, begin, most):
    """Rows and good states of the least table of the logs above a good log."""
    spread = Rising(rows, goods)
    return least_spread(spread, spread.entry(begin), most)


def below_table(rows, goods, begin, most):
    """Rows and good states of the least table of the logs below a good log."""
    falling = Falling(rows, [begin])
    spread = Live(falling, true_mask([goods[state] for state in falling.order]))
    return least_spread(spread, falling.reach[falling.place[begin]] & spread.goods, most)
