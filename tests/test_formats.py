"""Texts of logs, machines, judges, chains, ladders and rules, and how they are read."""

import itertools
import random
import unittest

import plain
from plain import AB, FREE, LAST, NO_JUDGES, NO_LETTERS, NO_MACHINES, ONCE, THREE, TURNS
from seldomflip.errors import (
    InvalidChain, InvalidJudge, InvalidLadder, InvalidLetters, InvalidLog, InvalidMachine, InvalidRule, ParseError, TooMany)
from seldomflip.sets.chains import chains_of
from seldomflip.sets.closures import above_of, below, minimal
from seldomflip.sets.logsets import Logs
from seldomflip.text.formats import (
    format_chains, format_history, format_judge, format_ladder, format_log, format_machine, format_rule, parse_chains,
    parse_history, parse_judge, parse_ladder, parse_log, parse_machine, parse_rule)
from seldomflip.towers.ladders import Ladder, least_ladder
from seldomflip.towers.swings import number
from test_ladders import NO_LADDERS, some_ladders
from test_rules import NO_RULES, deep_rule, occurs, some_rules, wide_rule

ABC = ("a", "b", "c")
LONG = ("a", "bb", "ccccdddd")
MACHINES = plain.some_machines(161, 30, "ab", 5) + plain.some_machines(162, 10, "a", 12) + [(LONG, ((0, 0, 0),), (False,))]
JUDGES = plain.some_machines(163, 30, "ab", 5, (None, "p", "yes", "verdicts")) + [LAST, ONCE, TURNS, THREE, FREE]
CHAINS = [(), ((),), ((("maybe", "a"),),), ((("any", ("a", "b")), ("maybe", "b"), ("any", ("a",))), (), (("maybe", "b"),) * 3)]
CHAINS += [chains_of(below(Logs(machine))) for machine in MACHINES[:20]]
LOGS = plain.all_logs(AB, 3) + [("a", "b") * 100]
HISTORIES = [(), ((),), ((), ("a",)), (("a",), (), ("a", "b")), tuple(LOGS)]
LADDERS = [ladder for ladder in some_ladders(4, AB, 40)] + [Ladder(AB, "x", "y", (Logs.everything(AB),))]
RULES = some_rules(5, AB, 120, 4) + [deep_rule(2), wide_rule(40), ("occurs", ())]
# none of these is a text of anything
NO_TEXTS = tuple(value for value in plain.OTHERS + plain.NUMBERS if not isinstance(value, str)) + plain.SETS + (
    (), ("a",), ["-"], LAST, b"-") + ("", " ", "\n", "~" * 300, " -", "- ", "-\n", "\n-", "A", "a.", ".a", "a..b", "a-b", "--", "1", "()", "|", "a.B")


def changed(text, source):
    """The text with some small change."""
    at = source.randrange(len(text) + 1)
    kind = source.randrange(4)
    if kind == 0:
        return text[:at] + text[at + 1:]
    if kind == 1:
        return text[:at] + source.choice("ab .|&!()-+*?[]:/\n01<x") + text[at:]
    if kind == 2:
        return text[:at] + source.choice("ab .|&!()-+*?[]:/\n01<x") + text[at + 1:]
    return text[:at] + text[at:at + 3] + text[at:]


class TextTest(unittest.TestCase):

    def check(self, value, form, parse):
        """The value comes back from its text; other texts near it are refused, or have another value with this text."""
        text = plain.unchanged(self, form, value)
        self.assertIsInstance(text, str)
        self.assertEqual(plain.unchanged(self, parse, text), value)
        source = random.Random(len(text))
        for _ in range(12):
            other = changed(text, source)
            try:
                found = parse(other)
            except ParseError:
                continue
            self.assertEqual(form(found), other)
            self.assertEqual(found == value, other == text)
        return text

    def check_refuses(self, parse):
        for value in NO_TEXTS:
            plain.refused(self, ParseError, parse, value)

    def test_logs(self):
        for log in LOGS + [("a",) * 200]:
            self.check(log, format_log, lambda text: parse_log(AB, text))
        self.assertEqual([format_log(()), format_log(("a", "b", "cd")), parse_log(("a", "cd"), "cd.a")], ["-", "a.b.cd", ("cd", "a")])
        # logs to be written may have any letters
        self.assertEqual(format_log(tuple("abcdefgh")), "a.b.c.d.e.f.g.h")
        for text in ("c", "a.c", "no logs", "a < b", ".".join("a" * 201)):
            plain.refused(self, ParseError, parse_log, AB, text)
        for value in plain.NO_LOGS:
            plain.refused(self, InvalidLog, format_log, value)
        self.check_refuses(lambda text: parse_log(AB, text) if text != "-" else parse_log(AB, ""))

    def test_histories(self):
        for logs in HISTORIES:
            self.check(logs, format_history, lambda text: parse_history(AB, text))
        self.assertEqual([format_history(()), format_history(((), ("a", "b"), ())), parse_history(AB, "b < -")],
                         ["no logs", "- < a.b < -", (("b",), ())])
        self.assertEqual(format_history((("x",), ("y", "z", "p", "q", "r"))), "x < y.z.p.q.r")
        for value in plain.NO_LOGS:
            plain.refused(self, InvalidLog, format_history, (("a",), value))
        for value in plain.OTHERS + plain.NUMBERS + plain.SETS + ([()],):
            plain.refused(self, InvalidLog, format_history, value)
        for text in ("a <b", "a<b", "a < ", " < a", "a <  b", "no logs < a", "a < c", "no log", "no  logs"):
            plain.refused(self, ParseError, parse_history, AB, text)
        self.check_refuses(lambda text: parse_history(AB, text))

    def test_machines(self):
        for machine in MACHINES:
            self.check(machine, format_machine, parse_machine)
        self.assertEqual(format_machine((AB, ((1, 0), (0, 1)), (True, False))), "letters a b\n0: 1 0 +\n1: 0 1 -")
        large = (("a",), tuple((min(at + 1, 199),) for at in range(200)), (True,) * 200)
        self.assertEqual(parse_machine(format_machine(large)), large)
        more = format_machine(large) + "\n200: 0 +"
        for text in (more, "letters a b", "letters a b\n", "letters\n0: +", "letters a b\n0: 0 0", "letters a b\n0: 0 0 *",
                     "letters a b\n0: 0 00 +", "letters a b\n0: 0 1 +", "letters b a\n0: 0 0 +", "letters a b\n1: 0 0 +",
                     "letters a b\n0: 0 0 +\n", "letters a b\n0: 0  0 +", "letter a b\n0: 0 0 +", "letters a b\n0 0 0 +",
                     "letters a b\n0: 0 0 yes", "letters a b c d e\n0: 0 0 0 0 0 +", "letters a a\n0: 0 0 +", "letters a b / 0: 0 0 +",
                     "letters a b\n0: 0 -1 +", "letters a b\n0: 0 0 + ", "letters a b\n0: " + "1" * 50 + " 0 +"):
            plain.refused(self, ParseError, parse_machine, text)
        for value in NO_MACHINES[::3]:
            plain.refused(self, InvalidMachine, format_machine, value)
        self.check_refuses(parse_machine)

    def test_judges(self):
        for judge in JUDGES:
            self.check(judge, format_judge, parse_judge)
        self.assertEqual(format_judge(LAST), "letters a b\n0: 1 2 *\n1: 1 2 x\n2: 1 2 y")
        large = plain.tail_judge(("p", None) * 20, 39)
        self.assertEqual(parse_judge(format_judge(large)), large)
        six = "letters a\n" + "\n".join(f"{at}: 0 {'pqrstu'[at]}" for at in range(6))
        self.assertEqual(parse_judge(six[:six.rindex("\n")])[2], tuple("pqrst"))
        for text in (six, format_judge(large) + "\n40: 0 p", "letters a\n0: 0 +", "letters a\n0: 0 -", "letters a\n0: 0 None",
                     "letters a\n0: 0 abcdefghi", "letters a\n0: 0 Yes", "letters a\n0: 0 ", "letters a\n0: 0 no yes", "letters a\n0: 0 **"):
            plain.refused(self, ParseError, parse_judge, text)
        for value in NO_JUDGES[::3]:
            plain.refused(self, InvalidJudge, format_judge, value)
        self.check_refuses(parse_judge)

    def test_chains(self):
        for chains in CHAINS:
            self.check(chains, lambda value: format_chains(AB, value), lambda text: parse_chains(AB, text))
        self.assertEqual(format_chains(AB, ()), "none")
        self.assertEqual(format_chains(AB, ((),)), "-")
        chain = (("maybe", "a"), ("any", ("a", "b")), ("maybe", "b"))
        self.assertEqual(format_chains(AB, (chain, (), chain[1:])), "a? [a b] b? | - | [a b] b?")
        words = ((("maybe", "cd"), ("any", ("a", "cd"))), (("maybe", "a"),))
        self.check(words, lambda value: format_chains(("a", "cd"), value), lambda text: parse_chains(("a", "cd"), text))
        self.assertEqual(format_chains(("a", "cd"), words), "cd? [a cd] | a?")
        most = (("maybe", "a"),) * 400
        self.assertEqual(parse_chains(AB, format_chains(AB, (most,))), (most,))
        for text in ("a? " * 400 + "a?", "c?", "[a c]", "[b a]", "[]", "[a", "a]", "[a b", "[ a]", "[a ]", "a? |b?", "a?b?", "a", "a??", "[a]?",
                     "- a?", "a? -", "none | a?", "a? | none", "[a a]", "[a? b]", "[a [b]", "[a] b]", "a? || b?", "?", "none "):
            plain.refused(self, ParseError, parse_chains, AB, text)
        for value in plain.OTHERS + plain.NUMBERS + plain.SETS + ((("maybe", "a"),), [()], ((("maybe", "c"),),), (most + most[:1],), (None,)):
            plain.refused(self, InvalidChain, format_chains, AB, value)
        self.check_refuses(lambda text: parse_chains(AB, text) if text != "-" else parse_chains(AB, ""))

    def test_ladders(self):
        for ladder in LADDERS + [least_ladder(judge, "p", "yes") for judge in plain.some_machines(7, 20, "ab", 4, (None, "p", "yes"))
                                 if number(judge) is not None]:
            self.check(ladder, format_ladder, lambda text: parse_ladder(AB, text))
        self.assertEqual(format_ladder(Ladder(AB, "no", "yes", ())), "ladder no yes")
        two = Ladder.listing(ABC, "no", "yes", ((("c",), ("b", "a"), ("c", "a")), (("c", "b"),)))
        self.assertEqual(format_ladder(two), "ladder no yes\nyes if c or b.a\nno if c.b")
        self.assertEqual(parse_ladder(ABC, format_ladder(two)), two)
        self.assertEqual(format_ladder(LADDERS[-1]), "ladder x y\ny if -")
        many = Ladder(("a",), "p", "q", (above_of(("a",), (("a",),)),) * 200)
        text = format_ladder(many)
        self.assertEqual(parse_ladder(("a",), text), many)
        head = "ladder no yes\n"
        for other in (text + "\nq if a", "ladder no no", "ladder no", "ladder no yes maybe", "ladder No yes", "ladders no yes", head,
                      head + "no if a", head + "yes if a\nyes if a.a", head + "yes if a or a", head + "yes if b or a", head + "yes if a or a.a",
                      head + "yes if ", head + "yes if a or ", head + "yes if c", head + "yes if a\nno if b", head + "yes if a.a\nno if a",
                      head + "yes  if a", head + "yes if a\n", head + "yes if a b", head + "yes when a", head + "yes if - or a",
                      head + "yes if " + ".".join("ab" * 100), head + "yes if " + ".".join("a" * 201)):
            plain.refused(self, ParseError, parse_ladder, AB, other)
        long = Ladder.listing(("a",), "no", "yes", ((("a",) * 198,),))
        self.assertEqual(parse_ladder(("a",), format_ladder(long)), long)
        for value in NO_LADDERS:
            plain.refused(self, InvalidLadder, format_ladder, value)
        self.check_refuses(lambda text: parse_ladder(AB, text))

    def test_too_many_minimal_logs(self):
        # this rung has 200 states; its minimal logs, with nine a's and nineteen b's, are a set of 201
        rung = above_of(AB, (("a",) * 9,)) & above_of(AB, (("b",) * 19,))
        self.assertEqual(len(rung), 200)
        plain.refused(self, TooMany, minimal, rung)
        self.assertEqual(plain.refused(self, TooMany, format_ladder, Ladder(AB, "no", "yes", (rung,))).limit, 200)

    def test_rules(self):
        for rule in RULES:
            self.check(rule, lambda value: format_rule(AB, value), lambda text: parse_rule(AB, text))
        a, b, c = occurs("a"), occurs("b"), ("not", occurs("ab"))
        for rule, text in ((("and", ("or", a, b), c), "(a | b) & !a.b"), (("or", ("and", a, b), c), "a & b | !a.b"),
                           (("and", ("and", a, b), c), "(a & b) & !a.b"), (("and", a, ("and", b, c)), "a & (b & !a.b)"),
                           (("or", a, ("or", b, c), a), "a | (b | !a.b) | a"), (("not", ("and", a, b)), "!(a & b)"),
                           (("not", ("or", a, b)), "!(a | b)"), (("and", a, b, c), "a & b & !a.b"), (("not", ("occurs", ())), "!-"),
                           (("or", ("not", ("and", a, ("or", a, b))), b), "!(a & (a | b)) | b"), (("not", ("not", a)), "!(!a)")):
            self.assertEqual(format_rule(AB, rule), text)
            self.assertEqual(parse_rule(AB, text), rule)
        for text in ("(a)", "((a))", "a & (b)", "(a & b)", "(a & b) | b", "a & b |", "a &b", "a&b", "a  & b", "! a", "!!a", "!", "a !b", "& a", "a & ",
                     "(a | b", "a | b)", "a | b) & (a | b", "()", "!()", "c", "a.c", "(a | b)(a & b)", "a b", "a && b", "(a | b) & (!a)"):
            plain.refused(self, ParseError, parse_rule, AB, text)

    def test_bounds_of_rules(self):
        for rule in (deep_rule(20), wide_rule(40)):
            self.assertEqual(parse_rule(AB, format_rule(AB, rule)), rule)
        deep = format_rule(AB, deep_rule(20))
        for text in (f"!({deep})", format_rule(AB, wide_rule(40)) + " | a", "!(" * 200 + "!a" + ")" * 200, "(" * 300, "!" * 300,
                     f"{deep} & a", " & ".join("a" * 41)):
            plain.refused(self, ParseError, parse_rule, AB, text)
        for value in NO_RULES:
            plain.refused(self, InvalidRule, format_rule, AB, value)
        self.check_refuses(lambda text: parse_rule(AB, text) if text != "-" else parse_rule(AB, ""))

    def test_letters_come_first(self):
        for value in NO_LETTERS:
            for call in (parse_log, parse_history, parse_chains, parse_ladder, parse_rule, format_chains, format_rule):
                plain.refused(self, InvalidLetters, call, value, None)

    def test_all_short_texts(self):
        # each text is the text of at most one value of a kind
        for letters, signs in ((AB, "ab.-! &|()"), (("a",), "a?[] |-")):
            for length in range(4):
                for text in map("".join, itertools.product(signs, repeat=length)):
                    for parse, form in ((parse_log, lambda _, value: format_log(value)), (parse_rule, format_rule),
                                        (parse_chains, format_chains), (parse_history, lambda _, value: format_history(value))):
                        try:
                            found = parse(letters, text)
                        except ParseError:
                            continue
                        self.assertEqual(form(letters, found), text)


if __name__ == "__main__":
    unittest.main()
