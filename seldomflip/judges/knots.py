"""Tables of few logs with few flips, for values that are known to be right.

The logs stand in their order, so each one behind those that occur in it. Verdicts are told by their
places among all verdicts.
"""

from seldomflip.base.ways import is_below


def logs_below(logs):
    """For each log of a row, in the order of logs, the places of those that occur in it, but for itself."""
    return [[at for at in range(place) if is_below(logs[at], log)] for place, log in enumerate(logs)]


def flips_of_row(below, verdicts):
    """For each log the most flips of a row of logs that ends with it."""
    found = []
    for place, lower in enumerate(below):
        found.append(max([0] + [found[at] + (1 if verdicts[at] != verdicts[place] else 0) for at in lower]))
    return found


class Filling:
    """Looks for verdicts, the least first, with which no row of the logs has more than so many flips.

    For each log and each verdict that it may have a least number of flips up to it is kept, by the logs
    below it that have a verdict already, and a least number of flips behind it, by the logs above it
    that may have one verdict only.
    """

    def __init__(self, below, allowed, many, most):
        self._above = [[] for _ in below]
        for place, lower in enumerate(below):
            for at in lower:
                self._above[at].append(place)
        self._allowed = allowed
        self._most = most
        self._later = [[0] * many for _ in below]
        for place in range(len(below) - 1, -1, -1):
            for verdict in range(many):
                self._later[place][verdict] = self._flips_later(place, verdict)
        # what is left to be filled from some log on, with these flips so far, cannot be filled
        self._failed = {}
        self._many = many

    def _flips_later(self, place, verdict):
        """The most flips behind a log with this verdict, by the logs above it that may have one verdict only."""
        found = 0
        for at in self._above[place]:
            if len(self._allowed[at]) == 1:
                other = self._allowed[at][0]
                found = max(found, self._later[at][other] + (1 if other != verdict else 0))
        return found

    def _is_possible(self, place, flips):
        """Whether the log may still have some verdict, by the flips up to it for each of them."""
        for verdict in self._allowed[place]:
            if flips[verdict] + self._later[place][verdict] <= self._most:
                return True
        return False

    def _flips_behind(self, place, flips, verdict):
        """The flips up to each log once the log at the place has this verdict, or None if this cannot be."""
        if flips[place][verdict] + self._later[place][verdict] > self._most:
            return None
        found = list(flips)
        own = flips[place][verdict]
        for at in self._above[place]:
            found[at] = tuple([max(one, own + (1 if other != verdict else 0)) for other, one in enumerate(flips[at])])
            if not self._is_possible(at, found[at]):
                return None
        return found

    def filled(self, place, flips):
        """The first verdicts for the logs from the place on, or None."""
        if place == len(flips):
            return ()
        key = tuple(flips[place:])
        if key in self._failed:
            return None
        for verdict in self._allowed[place]:
            following = self._flips_behind(place, flips, verdict)
            if following is not None:
                rest = self.filled(place + 1, following)
                if rest is not None:
                    return (verdict,) + rest
        self._failed[key] = True
        return None

    def first(self):
        """The first verdicts for all logs, or None."""
        return self.filled(0, [(0,) * self._many for _ in self._allowed])


def first_filling(below, allowed, many, most):
    """The first verdicts of all logs with which no row has more than so many flips, or None."""
    filling = Filling(below, allowed, many, most)
    return filling.first()
