"""A shell of commands about judges and monitors under names."""

from seldomflip.base.checks import is_name
from seldomflip.errors import InvalidOperation, Unlimited, UnknownName
from seldomflip.judges.judges import verdict_of, verdicts_of
from seldomflip.late.monitors import Monitor
from seldomflip.rules.rules import rule_judge
from seldomflip.sets.chains import chains_of
from seldomflip.text.commands import read_command
from seldomflip.text.formats import chains_text, format_ladder, judge_text
from seldomflip.text.words import logs_text, read_log
from seldomflip.towers.ladders import least_ladder
from seldomflip.towers.swings import greatest_swing, left_text, number
from seldomflip.towers.towers import height, highest_tower


def in_one_line(text):
    """The text with its lines in one."""
    return " / ".join(text.split("\n"))


def bound_text(many):
    """A number, or that there is none."""
    return "endless" if many is None else str(many)


def tower_text(judge, verdict):
    """The highest tower of the verdict, or that there is none."""
    try:
        tower = highest_tower(judge, verdict)
    except Unlimited:
        return "endless"
    return logs_text(tower)


def ladder_text(judge, first):
    """The least ladder from the one verdict of the judge to the other one."""
    verdicts = verdicts_of(judge)
    if len(verdicts) != 2 or first not in verdicts:
        raise InvalidOperation("the verdicts are not just this one and another one")
    other = verdicts[0] if first == verdicts[1] else verdicts[1]
    return in_one_line(format_ladder(least_ladder(judge, first, other)))


def told_by_judge(word, judge, told):
    """The result of a command that asks a judge."""
    if word == "number":
        return bound_text(number(judge))
    if word == "swing":
        return chains_text(chains_of(greatest_swing(judge)))
    if word == "height":
        return bound_text(height(judge, told[1]))
    if word == "tower":
        return tower_text(judge, told[1])
    if word == "ladder":
        return ladder_text(judge, told[1])
    verdict = verdict_of(judge, read_log(judge[0], told[1]))
    return "*" if verdict is None else verdict


def ask_text(monitor):
    """The answer of the monitor, its flips, and how many are left."""
    left = monitor.flips_left()
    end = "settled" if left == 0 else left_text(left)
    return f"{monitor.answer}, {monitor.flips} flips, {end}"


def turn_text(monitor):
    """The events that bring the next flip of the monitor."""
    found = monitor.turning()
    if found is None:
        return "settled"
    return ", ".join([f"{time} {letter} {position}" for time, letter, position in found])


def change(word, monitor, told):
    """Carries out a command that changes a monitor."""
    if word == "tell":
        monitor.tell(told[1], told[2], position=told[3] if len(told) == 4 else None)
    elif word == "close":
        monitor.close(told[1])
    elif word == "back":
        monitor.back(told[1])
    else:
        monitor.again(told[1])


class Shell:
    """Carries out commands."""

    def __init__(self):
        # for each name its kind, and the judge or the monitor
        self._things = {}

    def _value_of(self, kind, name):
        """The judge or the monitor under a name."""
        if not is_name(name) or name not in self._things or self._things[name][0] != kind:
            raise UnknownName(name)
        return self._things[name][1]

    def _check_free(self, kind, name):
        """Refuses a name that is used for the other kind."""
        if name in self._things and self._things[name][0] != kind:
            raise InvalidOperation("the name is used for the other kind")

    def _put(self, word, told):
        """Carries out a command that puts something in."""
        name = told[0]
        if word == "monitor":
            judge = self._value_of("judge", told[1])
            self._check_free("monitor", name)
            self._things[name] = ("monitor", Monitor(judge, first=told[2] if len(told) == 3 else None))
        else:
            self._check_free("judge", name)
            self._things[name] = ("judge", told[1] if word == "judge" else rule_judge(told[1], told[2]))

    def _drop(self, name):
        """Takes out what is under the name."""
        if name not in self._things:
            raise UnknownName(name)
        del self._things[name]

    def _shown(self, name):
        """The text of what is under the name."""
        if name not in self._things:
            raise UnknownName(name)
        kind, value = self._things[name]
        return in_one_line(judge_text(value)) if kind == "judge" else str(value)

    def _names(self):
        """The names with their kinds."""
        found = [f"{name} {self._things[name][0]}" for name in sorted(self._things)]
        return ", ".join(found) if found else "-"

    def run(self, line):
        """Carries out a command, and returns its result."""
        word, told = read_command(line)
        if word == "names":
            return self._names()
        if word == "show":
            return self._shown(told[0])
        if word == "ask":
            return ask_text(self._value_of("monitor", told[0]))
        if word == "turn":
            return turn_text(self._value_of("monitor", told[0]))
        if word in ("verdict", "number", "height", "tower", "swing", "ladder"):
            return told_by_judge(word, self._value_of("judge", told[0]), told)
        if word in ("judge", "rule", "monitor"):
            self._put(word, told)
        elif word == "drop":
            self._drop(told[0])
        else:
            change(word, self._value_of("monitor", told[0]), told)
        return "ok"

    def run_all(self, lines):
        """Yields the results of a tuple of commands, each when it is asked for."""
        if not isinstance(lines, tuple):
            raise InvalidOperation("a tuple of commands is needed")
        for line in lines:
            yield self.run(line)

    def monitor(self, name):
        """A branch of a monitor."""
        found = self._value_of("monitor", name)
        return found.branch()

    def __contains__(self, value):
        return is_name(value) and value in self._things

    def __len__(self):
        return len(self._things)
