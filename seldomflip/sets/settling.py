"""Least tables of configs that come back to themselves at most by single events.

A config stands for the logs that lead from it to a good one. Which configs are alike is told from
those that follow them, the last ones first.
"""

from seldomflip.sets.tables import check_size, renumbered


class Classes:
    """The different states found so far, each told by its goodness and by what follows it."""

    def __init__(self, most):
        self._most = most
        self._numbers = {}
        self.rows = []
        self.goods = []

    def class_of(self, is_good, targets):
        """The class of a config whose next ones have these classes, -1 for the config itself."""
        key = (is_good, targets)
        if key not in self._numbers:
            self._numbers[key] = self._class_for(is_good, targets)
        return self._numbers[key]

    def _class_for(self, is_good, targets):
        """The class of a target that is alike to the config, or a new one."""
        for name in targets:
            if name != -1 and self.goods[name] == is_good:
                if tuple([name if one == -1 else one for one in targets]) == self.rows[name]:
                    return name
        name = len(self.rows)
        check_size(name + 1, self._most)
        self.rows.append(tuple([name if one == -1 else one for one in targets]))
        self.goods.append(is_good)
        return name


def settled(begin, width, step, is_good, most, patience):
    """Rows and good states of the least table of the configs.

    No config but one itself is followed, later on, by itself. More states than the most are refused;
    if more configs than the patience are met, which may be None, None is returned.
    """
    classes = Classes(most)
    known = {}
    following = {}
    stack = [begin]
    while stack:
        config = stack[-1]
        if config not in following:
            following[config] = [step(config, at) for at in range(width)]
            if patience is not None and len(following) > patience:
                return None
        missing = [one for one in following[config] if one != config and one not in known]
        if missing:
            stack.append(missing[0])
        else:
            stack.pop()
            targets = tuple([-1 if one == config else known[one] for one in following[config]])
            known[config] = classes.class_of(is_good(config), targets)
    return renumbered(classes.rows, classes.goods, known[begin])
