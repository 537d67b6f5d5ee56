"""Point 19: languages on top of a base, judged by their own cases."""
import random
import unittest

from keptkinds.books import Book
from keptkinds.errors import NotOnTop
from keptkinds.languages import Language
from keptkinds.layers import judge_on_top
from keptkinds.tables import Table
from keptkinds.terms import Signature
from keptkinds.verdicts import Verdict, judge
from tests import plain
from tests.samples import ONE, ZERO, add, language, pair

# Numbers with an addition; on top of them, one symbol more, a list, and what takes it apart.
SYMBOLS = [("zero", 0, True, ()), ("succ", 1, True, (0,)), ("add", 2, False, (0,))]
KINDS = ["num", "any"]
UNDER = [("num", "any")]
ENTRIES = [("zero", (), "num"), ("succ", ("num",), "num"), ("add", ("num", "num"), "num")]
RULES = [(("add", ("zero",), "y"), "y"), (("add", ("succ", "x"), "y"), ("succ", ("add", "x", "y")))]

MORE_SYMBOLS = SYMBOLS + [("cons", 2, True, (0,)), ("head", 1, False, (0,))]
MORE_KINDS = KINDS + ["list"]
MORE_ENTRIES = ENTRIES + [("cons", ("num", "num"), "list"), ("head", ("list",), "num")]
MORE_RULES = RULES + [(("head", ("cons", "x", "y")), "x")]


def made(symbols, kinds, under, entries, rules):
    return Language(Book(Signature(symbols), kinds, under=under, entries=entries), rules)


def base(symbols=SYMBOLS, kinds=KINDS, under=UNDER, entries=ENTRIES, rules=RULES):
    return made(symbols, kinds, under, entries, rules)


def more(symbols=MORE_SYMBOLS, kinds=MORE_KINDS, under=UNDER, entries=MORE_ENTRIES, rules=MORE_RULES):
    return made(symbols, kinds, under, entries, rules)


def summary(verdict):
    return (verdict.sound, verdict.stuck, verdict.lost, verdict.witness, verdict.cases)


def own_cases(ground, language):
    """{case: whether it holds} for the cases that the base lacks."""
    known = plain.cases(ground, Table(ground))
    return {case: holds for case, holds in plain.cases(language, Table(language)).items() if case not in known}


class OwnCases(unittest.TestCase):
    def test_a_language_on_top(self):
        self.assertEqual(summary(judge(base())), (True, None, None, None, 1 + 1 + 2 * 3))
        found = judge_on_top(base(), more())
        self.assertIs(type(found), Verdict)
        # Lists are new kinds of rows: for y in add, and for x and y in head.
        keeping = (2 - 1) + (2 * 2 - 1) + 2 * 2
        # head and cons are new first symbols: head, cons and all that add takes.
        moving = 3 * 5 - 2 * 3 + 3
        self.assertEqual(summary(found), (True, None, None, None, keeping + moving))
        self.assertEqual(len(own_cases(base(), more())), found.cases)

    def test_on_top_of_itself(self):
        for ground in (base(), language(), base(rules=[], entries=[])):
            self.assertEqual(summary(judge_on_top(ground, ground)), (True, None, None, None, 0))

    def test_what_fails_is_told(self):
        found = judge_on_top(base(), more(rules=RULES))
        least = ("head", ("cons", ZERO, ZERO))
        self.assertEqual(summary(found)[:4], (False, least, None, least))
        self.assertEqual(found.cases, judge_on_top(base(), more()).cases - 4)
        found = judge_on_top(base(), more(rules=RULES + [(("head", ("cons", "x", "y")), ("cons", "x", "y"))]))
        self.assertEqual(found.lost, (least, 2, ("cons", ZERO, ZERO), "num"))
        self.assertEqual(found.witness, least)

    def test_a_rule_of_the_base_may_fail_for_new_rows(self):
        # Where add is a list for a list, its first rule holds, its second one does not.
        found = judge_on_top(base(), more(entries=MORE_ENTRIES + [("add", ("num", "list"), "list")]))
        nil = ("cons", ZERO, ZERO)
        self.assertEqual(found.lost, (add(ONE, nil), 1, ("succ", add(ZERO, nil)), "list"))

    def test_more_entries_of_a_symbol_of_the_base(self):
        # No rule takes the head of a successor, which may now be a list.
        entries = MORE_ENTRIES + [("succ", ("list",), "list"), ("add", ("list", "list"), "any")]
        found = judge_on_top(base(), more(entries=entries))
        self.assertEqual(found.stuck, ("head", ("succ", ("cons", ZERO, ZERO))))
        self.assertEqual(found.cases, len(own_cases(base(), more(entries=entries))))

    def test_new_kinds_may_be_under_those_of_the_base(self):
        found = judge_on_top(base(), more(under=UNDER + [("list", "any")]))
        self.assertTrue(found.sound)

    def test_a_later_rule_for_a_symbol_of_the_base(self):
        rules = MORE_RULES + [(("add", ("cons", "x", "y"), "z"), ("zero",))]
        self.assertTrue(judge_on_top(base(), more(rules=rules)).sound)

    def test_nothing_is_modified(self):
        ground, language = base(), more()
        judge_on_top(ground, language)
        self.assertEqual((ground.book.entries, ground.rules), (base().book.entries, tuple(RULES)))
        self.assertEqual((language.book.entries, language.rules), (more().book.entries, tuple(MORE_RULES)))

    def test_against_all_cases(self):
        found = {True: 0, False: 0}
        for seed in range(700):
            chance = random.Random(seed)
            ground = plain.chance_language(seed)
            language = chance_layer(chance, ground)
            whole = judge(language)
            if judge(ground).sound:
                own = own_cases(ground, language)
                verdict = judge_on_top(ground, language)
                self.assertEqual(summary(verdict)[:4], summary(whole)[:4])
                self.assertEqual((verdict.sound, verdict.cases), (all(own.values()), len(own)), seed)
                found[verdict.sound] += 1
            else:
                with self.assertRaises(NotOnTop) as caught:
                    judge_on_top(ground, language)
                self.assertEqual(caught.exception.what, "base")
        self.assertGreater(min(found.values()), 50)


def chance_layer(chance, ground):
    """A language on top of another one."""
    symbols = list(ground.signature.symbols) + [("top", 1, True, (0,)), ("last", chance.randint(0, 2), False, ())]
    kinds = list(ground.book.kinds) + ["new"]
    under = [*ground.book.under, *[("new", kind) for kind in ground.book.kinds if chance.random() < 0.3]]
    every = plain.every_entry(Book(Signature(symbols), kinds), symbols)
    fresh = [entry for entry in every if not (ground.signature.has(entry[0]) and "new" not in entry[1])]
    entries = [*ground.book.entries, *chance.sample(fresh, chance.randint(0, 7))]
    rules = [plain.chance_rule(chance, symbols, symbols[-1]) for _ in range(chance.randint(0, 2))]
    return made(symbols, kinds, under, entries, [*ground.rules, *rules])


class Refused(unittest.TestCase):
    def assert_not(self, what, ground, language):
        with self.assertRaises(NotOnTop) as caught:
            judge_on_top(ground, language)
        self.assertEqual(caught.exception.what, what)

    def test_symbols(self):
        for symbols in (
            MORE_SYMBOLS[::-1], [MORE_SYMBOLS[1], MORE_SYMBOLS[0]] + MORE_SYMBOLS[2:],
            MORE_SYMBOLS[:1] + [("succ", 1, True, ())] + MORE_SYMBOLS[2:],
            MORE_SYMBOLS[:2] + [("add", 2, False, (0, 1))] + MORE_SYMBOLS[3:],
        ):
            self.assert_not("symbols", base(), more(symbols))
        self.assert_not("symbols", more(), base())

    def test_kinds(self):
        for kinds in (["any", "num", "list"], ["list", "num", "any"], ["num", "list", "any"]):
            self.assert_not("kinds", base(), more(kinds=kinds))
        self.assert_not("kinds", base(under=[]), base(kinds=["num"], under=[]))

    def test_under(self):
        self.assert_not("under", base(), more(under=[]))
        self.assert_not("under", base(), more(under=[("any", "num")]))
        self.assert_not("under", base(), more(under=UNDER + [("num", "list")]))
        self.assert_not("under", base(), more(under=UNDER + [("any", "list")]))
        self.assert_not("under", base(under=[]), more())

    def test_entries(self):
        self.assert_not("entries", base(), more(entries=MORE_ENTRIES[1:]))
        self.assert_not("entries", base(), more(entries=MORE_ENTRIES + [("succ", ("any",), "any")]))
        # The kind is new, the symbol and the part kinds are not.
        self.assert_not("entries", base(), more(entries=MORE_ENTRIES + [("zero", (), "list")]))
        self.assert_not("entries", base(), more(entries=MORE_ENTRIES + [("add", ("num", "num"), "list")]))

    def test_rules(self):
        self.assert_not("rules", base(), more(rules=MORE_RULES[1:]))
        self.assert_not("rules", base(), more(rules=[RULES[1], RULES[0], MORE_RULES[2]]))
        self.assert_not("rules", base(), more(rules=[MORE_RULES[2]] + RULES))
        self.assert_not("rules", base(), more(rules=MORE_RULES + [RULES[0]]))
        self.assert_not("rules", base(), more(rules=MORE_RULES + [(("add", "x", "y"), ("cons", "x", "y"))]))
        self.assert_not("rules", base(), more(rules=MORE_RULES + [(("add", ("succ", "x"), "head"), "x")]))
        self.assert_not("rules", base(), base(rules=RULES + [(("add", ("zero",), ("zero",)), ("zero",))]))

    def test_base(self):
        unsound = base(rules=RULES[:1])
        self.assert_not("base", unsound, unsound)
        self.assert_not("base", unsound, more(rules=RULES[:1] + MORE_RULES[2:]))
        # A base that is not sound, and a language that would be.
        self.assert_not("base", unsound, more(rules=RULES[:1] + [(("add", ("cons", "x", "y"), "z"), "x"), MORE_RULES[2]]))

    def test_which_word_comes_first(self):
        ground = base(rules=RULES[:1])
        wrong = dict(
            symbols=MORE_SYMBOLS[:1] + [("succ", 1, True, ())] + MORE_SYMBOLS[2:], kinds=["any", "num", "list"],
            under=UNDER + [("num", "list")], entries=MORE_ENTRIES[1:], rules=MORE_RULES)
        for what in ("symbols", "kinds", "under", "entries", "rules"):
            self.assert_not(what, ground, more(**wrong))
            del wrong[what]
        self.assert_not("rules", ground, more(rules=MORE_RULES))
        self.assert_not("base", ground, more(rules=RULES[:1] + MORE_RULES[2:]))

    def test_a_pair_of_the_sample(self):
        self.assert_not("symbols", language(), more())
        self.assertNotIn(pair(ZERO, ZERO), more().book)


if __name__ == "__main__":
    unittest.main()
