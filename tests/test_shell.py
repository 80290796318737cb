"""A shell: its commands, what they return, and what it refuses."""

import random
import unittest

import plain
from plain import AB, LAST, ONCE, THREE, TURNS
from seldomflip.errors import (
    InvalidNumber, InvalidOperation, NothingToUndo, ParseError, TooLate, TooMany, Unlimited, UnknownName)
from seldomflip.judges.judges import least_judge, verdict_of, verdicts_of
from seldomflip.late.monitors import Monitor
from seldomflip.rules.rules import rule_judge
from seldomflip.sets.chains import chains_of
from seldomflip.text.formats import format_chains, format_history, format_judge, format_ladder, format_log, parse_judge
from seldomflip.text.shell import Shell
from seldomflip.towers.ladders import least_ladder
from seldomflip.towers.swings import greatest_swing, number
from seldomflip.towers.towers import heights, highest_tower
from test_rules import occurs
from test_towers import WIDER, chain_judge

SMALL = plain.some_machines(171, 40, "ab", 4, (None, "p", "q")) + plain.some_machines(172, 15, "ab", 4, (None, "p", "q", "r")) + [LAST, ONCE, THREE]
BEGIN = ("rule once a b : a & !a.a", "judge last letters a b / 0: 1 2 * / 1: 1 2 x / 2: 1 2 y", "monitor late once", "monitor ends last y")


def line_of(judge):
    return format_judge(judge).replace("\n", " / ")


def started():
    shell = Shell()
    for line in BEGIN:
        assert shell.run(line) == "ok"
    return shell


def state_of(shell):
    """All that the shell tells of its names."""
    names = shell.run("names")
    found = [names, len(shell)]
    for part in names.split(", ") if names != "-" else []:
        name, kind = part.split(" ")
        found.append(shell.run(f"show {name}"))
        if kind == "monitor":
            monitor = shell.monitor(name)
            found += [monitor.groups, monitor.events, monitor.judge, monitor.closed_to, shell.run(f"turn {name}")]
            while True:
                try:
                    found.append(monitor.again())
                except NothingToUndo:
                    break
    return found


class CommandsTest(unittest.TestCase):

    def check(self, shell, *pairs):
        for line, result in pairs:
            self.assertEqual(shell.run(line), result, line)

    def test_ordinary(self):
        shell = Shell()
        self.check(
            shell, ("names", "-"), ("rule once a b : a & !a.a", "ok"), ("show once", "letters a b / 0: 1 0 no / 1: 2 1 yes / 2: 2 2 no"),
            ("names", "once judge"), ("monitor late once", "ok"), ("names", "late monitor, once judge"), ("show late", "-|-: no, 0 flips"),
            ("ask late", "no, 0 flips, 2 left"), ("turn late", "0 a 0"), ("tell late 5 b", "ok"), ("tell late 5 a 0", "ok"),
            ("show late", "-|a.b: yes, 1 flips"), ("ask late", "yes, 1 flips, 1 left"), ("close late 5", "ok"), ("turn late", "5 a 1"),
            ("close late 6", "ok"), ("show late", "a.b|-: yes, 1 flips"), ("turn late", "6 a 0"), ("tell late 6 a", "ok"),
            ("ask late", "no, 2 flips, settled"), ("turn late", "settled"), ("back late 2", "ok"), ("ask late", "yes, 1 flips, 1 left"),
            ("again late 1", "ok"), ("show late", "a.b|-: yes, 1 flips"), ("back late 0", "ok"), ("drop late", "ok"),
            ("names", "once judge"), ("drop once", "ok"), ("names", "-"))

    def test_judges(self):
        shell = started()
        self.check(
            shell, ("verdict once a.b", "yes"), ("verdict once -", "no"), ("verdict last -", "*"), ("verdict last a.b", "y"),
            ("number once", "2"), ("number last", "endless"), ("height once no", "3"), ("height last x", "endless"),
            ("tower once yes", "a < a.a"), ("tower once no", "- < a < a.a"), ("tower last y", "endless"), ("swing once", "none"),
            ("swing last", "[a b]"), ("ladder once no", "ladder no yes / yes if a / no if a.a"),
            ("ladder once yes", "ladder yes no / no if - / yes if a / no if a.a"), ("monitor other last", "ok"), ("ask other", "x, 0 flips, endless"),
            ("show ends", "-|-: y, 0 flips"), ("turn ends", "0 a 0"), ("monitor ends once yes", "ok"), ("show ends", "-|-: no, 0 flips"))

    def test_as_the_functions(self):
        for judge in SMALL:
            shell = Shell()
            self.assertEqual(shell.run(f"judge one {line_of(judge)}"), "ok")
            self.assertEqual(shell.run("show one"), line_of(judge))
            self.assertEqual(parse_judge(shell.run("show one").replace(" / ", "\n")), judge)
            many = number(judge)
            self.assertEqual(shell.run("number one"), "endless" if many is None else str(many))
            self.assertEqual(shell.run("swing one"), format_chains(judge[0], chains_of(greatest_swing(judge))))
            for verdict, high in heights(judge).items():
                self.assertEqual(shell.run(f"height one {verdict}"), "endless" if high is None else str(high))
                tower = "endless" if high is None else format_history(highest_tower(judge, verdict))
                self.assertEqual(shell.run(f"tower one {verdict}"), tower)
            for log in plain.all_logs(judge[0], 3):
                self.assertEqual(shell.run(f"verdict one {format_log(log)}"), verdict_of(judge, log) or "*")
            self.ladders(shell, judge)

    def ladders(self, shell, judge):
        verdicts = verdicts_of(judge)
        for first in verdicts + ("other",):
            line = f"ladder one {first}"
            if len(verdicts) != 2 or first == "other":
                plain.refused(self, InvalidOperation, shell.run, line)
            elif number(judge) is None:
                self.assertEqual(plain.refused(self, Unlimited, shell.run, line).swing, greatest_swing(judge))
            else:
                other = verdicts[0] if first == verdicts[1] else verdicts[1]
                self.assertEqual(shell.run(line), format_ladder(least_ladder(judge, first, other)).replace("\n", " / "))

    def test_monitors_as_the_class(self):
        source = random.Random(3)
        for judge in SMALL:
            if verdicts_of(judge):
                shell, monitor = Shell(), Monitor(judge)
                shell.run(f"judge one {line_of(judge)}")
                shell.run("monitor two one")
                for _ in range(8):
                    kind, time, letter = source.choice(("tell", "tell", "close", "back", "again")), source.randint(0, 4), source.choice(judge[0])
                    words = [kind, "two"] + {"tell": [str(time), letter], "close": [str(time)]}.get(kind, [str(time % 3)])
                    try:
                        {"tell": lambda: monitor.tell(time, letter), "close": lambda: monitor.close(time),
                         "back": lambda: monitor.back(time % 3), "again": lambda: monitor.again(time % 3)}[kind]()
                    except (TooLate, InvalidNumber, NothingToUndo) as caught:
                        plain.refused(self, type(caught), shell.run, " ".join(words))
                    else:
                        self.assertEqual(shell.run(" ".join(words)), "ok")
                    left = monitor.flips_left()
                    end = "settled" if left == 0 else "endless" if left is None else f"{left} left"
                    self.assertEqual(shell.run("ask two"), f"{monitor.answer}, {monitor.flips} flips, {end}")
                    self.assertEqual(shell.run("show two"), str(monitor))
                    self.assertTrue(shell.monitor("two") == monitor)
                    found = monitor.turning()
                    wanted = "settled" if found is None else ", ".join(f"{one} {two} {three}" for one, two, three in found)
                    self.assertEqual(shell.run("turn two"), wanted)

    def test_rules(self):
        shell = Shell()
        shell.run("rule one a b : (a | b) & !a.b")
        judge = rule_judge(AB, ("and", ("or", occurs("a"), occurs("b")), ("not", occurs("ab"))))
        self.assertEqual(shell.run("show one"), line_of(judge))
        shell.run("rule one a bb : -")
        self.assertEqual(shell.run("show one"), "letters a bb / 0: 0 0 yes")
        shell.run("rule abcdefgh abcdefgh : !(abcdefgh.abcdefgh | -)")
        self.assertEqual(shell.run("show abcdefgh"), "letters abcdefgh / 0: 0 no")
        self.assertEqual(plain.refused(self, TooMany, shell.run, "rule two a b : " + ".".join("a" * 40)).limit, 40)
        big = " & ".join(".".join(letter * 20) for letter in "abc")
        self.assertEqual(plain.refused(self, TooMany, shell.run, f"rule two a b c : {big}").limit, 5000)
        self.assertEqual(shell.run("names"), "abcdefgh judge, one judge")

    def test_replaced(self):
        shell = started()
        shell.run("tell late 5 a")
        # monitors keep their judge
        shell.run(f"judge once {line_of(TURNS)}")
        self.assertEqual(shell.run("show once"), line_of(TURNS))
        self.assertEqual(shell.monitor("late").judge, least_judge(ONCE))
        self.assertEqual(shell.run("show late"), "-|a: yes, 1 flips")
        shell.run("drop once")
        self.assertEqual(shell.run("ask late"), "yes, 1 flips, 1 left")
        shell.run("rule last a : a")
        self.assertEqual(shell.monitor("ends").judge, LAST)
        shell.run("monitor late last")
        self.assertEqual((shell.run("show late"), len(shell)), ("-|-: no, 0 flips", 3))

    def test_long_towers(self):
        # logs of towers can be longer than those that are read
        judge = (AB, tuple((at + 1 if at < 39 else 39, 0) for at in range(40)), (None,) * 39 + ("p",))
        shell = Shell()
        shell.run(f"judge long {line_of(judge)}")
        self.assertEqual(shell.run("tower long p"), ".".join("a" * 39))
        shell.run(f"judge high {line_of(chain_judge(40))}")
        found = shell.run("tower high p").split(" < ")
        self.assertEqual((len(found), found[0], found[-1]), (40, "-", ".".join("a" * 39)))

    def test_membership(self):
        shell = started()
        for name in ("once", "late", "last", "ends"):
            self.assertIs(name in shell, True)
        for value in plain.OTHERS + plain.NUMBERS + plain.SETS + ("other", "Once", ("once",), ["once"], {"once": 1}):
            self.assertIs(value in shell, False)
        self.assertEqual((len(shell), len(Shell())), (4, 0))

    def test_branches(self):
        shell = started()
        before = state_of(shell)
        monitor = shell.monitor("late")
        monitor.tell(7, "a")
        self.assertEqual(state_of(shell), before)
        shell.run("tell late 8 b")
        self.assertEqual(monitor.events, ((7, "a"),))
        for value in plain.NO_NAMES + (None, "once", "other"):
            self.assertEqual(plain.refused(self, UnknownName, shell.monitor, value).name, value)

    def test_run_all(self):
        shell = Shell()
        results = shell.run_all(BEGIN + ("tell late 5 a", "nothing", "tell late 6 a"))
        self.assertEqual(len(shell), 0)
        self.assertEqual([next(results), len(shell)], ["ok", 1])
        self.assertEqual([next(results) for _ in range(4)], ["ok"] * 4)
        with self.assertRaises(ParseError):
            next(results)
        self.assertEqual(shell.run("show late"), "-|a: yes, 1 flips")
        self.assertEqual(list(shell.run_all(())), [])
        for value in plain.OTHERS + plain.NUMBERS + plain.SETS + (["names"], "names"):
            later = shell.run_all(value)
            with self.assertRaises(InvalidOperation):
                next(later)


NO_COMMANDS = tuple(value for value in plain.OTHERS + plain.NUMBERS + plain.SETS if not isinstance(value, str)) + ((), ("names",)) + (
    "", " ", "names ", " names", "names once", "Names", "other", "names\n", "show", "show once late", "show  once", "show Once", "show abcdefghi",
    "judge", "judge one", "judge one letters", "judge one letters a b", "judge one letters a b\n0: 0 0 no", "judge One letters a / 0: 0 no",
    "judge one letters a b / 0: 0 0 +", "judge one letters a b/ 0: 0 0 no", "judge one letters a b / 0: 0 0 no /", "judge one  letters a / 0: 0 no",
    "rule", "rule one", "rule one a", "rule one a : ", "rule one a :", "rule one : a", "rule one b a : a", "rule one a b : c", "rule one a b : a  & b",
    "rule one a b : (a)", "rule one a b: a", "rule one a b : a : b", "rule One a : a", "rule one a b c d e : a", "rule one  a : a", "rule one a A : a",
    "monitor", "monitor one", "monitor one once no yes", "monitor one Once", "monitor 1 once", "monitor one once No", "monitor  one once",
    "tell late", "tell late 5", "tell late a 5", "tell late 05 a", "tell late -5 a", "tell late 5 A", "tell late 5 a b", "tell late 5 a 0 0",
    "tell late 12345678901 a", "tell late 5 a 12345678901", "tell late 5 a 00", "tell late 5  a", "tell late 5.0 a", "tell late +5 a",
    "close late", "close late a", "close late 01", "close late 1 1", "back late", "back late -1", "back late x", "again late", "again late 1 1",
    "drop", "drop once late", "verdict once", "verdict once a b", "verdict  once", "number", "number once 1", "height once", "height once No",
    "tower once", "tower once no yes", "swing", "swing once a", "ladder once", "ladder once No", "ask", "ask late once", "turn", "turn late 1",
    "verdict once ", "verdict once a\n", "tell late 5 \u0661", "show once\nshow once")


class WrongTest(unittest.TestCase):

    def test_no_commands(self):
        shell = started()
        before = state_of(shell)
        for line in NO_COMMANDS:
            plain.refused(self, ParseError, shell.run, line)
        self.assertEqual(state_of(shell), before)

    def test_errors_in_order(self):
        shell = started()
        shell.run("tell late 5 a")
        shell.run("close late 4")
        before = state_of(shell)
        # names that are not there, or of the other kind, come ahead of logs and of what functions refuse
        for line in ("show other", "drop other", "monitor one other", "monitor one late", "monitor once late", "monitor once other nobody",
                     "tell once 5 a", "tell other 99999 c", "close once 0", "back last 9", "again other 1", "ask once", "turn last",
                     "verdict late a", "verdict other ...", "number late", "height late no", "tower ends x", "swing late", "ladder other no"):
            plain.refused(self, UnknownName, shell.run, line)
        self.assertEqual(plain.refused(self, UnknownName, shell.run, "monitor once late").name, "late")
        for line in ("judge late letters a / 0: 0 no", "rule late a : a", "monitor once last nobody", "monitor last last",
                     "rule late a b : " + ".".join("a" * 60)):
            plain.refused(self, InvalidOperation, shell.run, line)
        for line in ("verdict once c", "verdict once a.", "verdict once ...", "verdict once A", "verdict once " + ".".join("a" * 201)):
            plain.refused(self, ParseError, shell.run, line)
        for line, error in (("tell late 9999999999 a", InvalidNumber), ("tell late 5 c", UnknownName), ("tell late 5 a 2", InvalidNumber),
                            ("tell late 3 a", TooLate), ("close late 3", InvalidNumber), ("close late 1000000001", InvalidNumber),
                            ("back late 3", NothingToUndo), ("again late 1", NothingToUndo), ("monitor one once nobody", UnknownName),
                            ("height once maybe", UnknownName), ("tower once maybe", UnknownName), ("ladder once maybe", InvalidOperation),
                            ("ladder last x", Unlimited)):
            plain.refused(self, error, shell.run, line)
        self.assertEqual(state_of(shell), before)

    def test_judges_without_verdicts(self):
        shell = Shell()
        shell.run("judge free letters a / 0: 0 *")
        plain.refused(self, InvalidOperation, shell.run, "monitor one free")
        plain.refused(self, UnknownName, shell.run, "monitor one free no")
        plain.refused(self, InvalidOperation, shell.run, "ladder free no")
        self.assertEqual([shell.run("number free"), shell.run("swing free"), len(shell)], ["0", "none", 1])

    def test_too_many(self):
        shell = Shell()
        shell.run(f"judge wide {line_of(WIDER)}")
        for line in ("number wide", "height wide x", "tower wide y", "swing wide", "ladder wide x", "monitor one wide"):
            self.assertEqual(plain.refused(self, TooMany, shell.run, line).limit, 200)
        shell.run("monitor one wide x")
        for line in ("ask one", "close one 0"):
            self.assertEqual(plain.refused(self, TooMany, shell.run, line).limit, 200)
        self.assertNotEqual(shell.run("turn one"), "settled")
        self.assertEqual(shell.run("show one"), "-|-: x, 0 flips")


if __name__ == "__main__":
    unittest.main()
