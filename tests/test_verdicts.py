"""Points 14 to 16: keeping cases, moving cases, soundness; judge, uses and ambiguous."""
import itertools
import unittest

from keptkinds.books import Book
from keptkinds.languages import Language
from keptkinds.tables import Table
from keptkinds.terms import Signature
from keptkinds.verdicts import Verdict, ambiguous, judge, uses
from tests import plain
from tests.samples import ENTRIES, ONE, RULES, SYMBOLS, TWO, ZERO, add, fst, language, pair, succ

# A constant, a box whose part is not evaluated, a working symbol that evaluates nothing and one that does.
LAZY = [("end", 0, True, ()), ("box", 1, True, ()), ("lazy", 1, False, ()), ("take", 1, False, (0,))]
END = ("end",)


def lazy(entries, rules, kinds=("p", "q"), symbols=LAZY, under=()):
    return Language(Book(Signature(symbols), kinds, under=under, entries=entries), rules)


def summary(verdict):
    return (verdict.sound, verdict.stuck, verdict.lost, verdict.witness, verdict.cases)


class Sound(unittest.TestCase):
    def test_a_sound_language(self):
        # Keeping: 2, 2 * 2 and 2 * 3 cases; moving: 3 * 3 and 3.
        self.assertEqual(summary(judge(language())), (True, None, None, None, 24))

    def test_the_kind_of_answer(self):
        made = judge(language())
        self.assertIs(type(made), Verdict)
        self.assertIs(made.sound, True)
        self.assertIs(type(made.cases), int)
        self.assertIs(judge(language([])).sound, False)

    def test_stuck_terms_without_a_kind_do_not_matter(self):
        made = language()
        self.assertEqual(made.steps(fst(ZERO)), [])
        self.assertNotIn(fst(ZERO), made.book)
        self.assertTrue(judge(made).sound)

    def test_a_term_without_a_kind_has_none_to_lose(self):
        made = lazy([("end", (), "p"), ("box", ("p",), "q")], [(("take", "x"), "x")])
        self.assertEqual(summary(judge(made)), (True, None, None, None, 6))
        self.assertEqual(made.steps(("take", END)), [(0, END)])

    def test_a_step_may_give_kinds(self):
        made = lazy([("end", (), "p"), ("take", ("p",), "q")], [(("take", "x"), ("take", "x")), (("take", "x"), "x")])
        self.assertEqual(judge(made).lost, (("take", END), 1, END, "q"))
        made = lazy([("end", (), "p"), ("end", (), "q"), ("take", ("p",), "q")], [(("take", "x"), "x")])
        self.assertTrue(judge(made).sound)

    def test_kinds_above_count(self):
        # What fst takes out of a pair may be num or, as num is above nat, nat.
        self.assertTrue(judge(language()).sound)
        # No value of a pair has a part that is num alone, so fst may promise nat.
        self.assertTrue(judge(language(entries=ENTRIES + [("fst", ("both",), "nat")])).sound)
        made = judge(language(entries=ENTRIES + [("pair", ("both", "num"), "both"), ("fst", ("both",), "nat")]))
        self.assertEqual(made.lost, (fst(pair(pair(ZERO, ZERO), ZERO)), 2, pair(ZERO, ZERO), "nat"))


class Stuck(unittest.TestCase):
    def test_the_least_stuck_term(self):
        made = judge(language(RULES[1:]))
        self.assertEqual(summary(made), (False, add(ZERO, ZERO), None, add(ZERO, ZERO), 22))

    def test_without_rules(self):
        self.assertEqual(summary(judge(language([]))), (False, add(ZERO, ZERO), None, add(ZERO, ZERO), 12))

    def test_only_terms_with_a_kind(self):
        made = judge(language([RULES[0], RULES[2]]))
        self.assertEqual(made.stuck, add(ONE, ZERO))
        made = judge(language([RULES[0], RULES[2]], [entry for entry in ENTRIES if entry[0] != "succ"]))
        self.assertTrue(made.sound)

    def test_a_rule_for_one_place_is_not_enough(self):
        rules = [(("add", ("zero",), ("succ", "x")), "x"), (("add", ("succ", "x"), ("zero",)), "x")]
        self.assertEqual(judge(language(rules)).stuck, add(ZERO, ZERO))
        rules.append((("add", ("zero",), ("zero",)), ("zero",)))
        self.assertEqual(judge(language(rules)).stuck, fst(pair(ZERO, ZERO)))
        self.assertEqual(judge(language(rules + RULES[2:])).stuck, add(ONE, ONE))

    def test_the_smaller_term_comes_first_whatever_its_symbol(self):
        # add is declared ahead of fst, but its least term with a kind is larger.
        made = language([], ENTRIES + [("fst", ("num",), "both")])
        self.assertEqual(judge(made).stuck, fst(ZERO))

    def test_a_larger_part_may_have_the_least_first_symbol_that_no_rule_fits(self):
        made = language([(("fst", ("zero",)), ("zero",))], [
            ("zero", (), "nat"), ("succ", ("nat",), "both"), ("succ", ("both",), "nat"), ("fst", ("nat",), "nat")])
        self.assertEqual(judge(made).stuck, fst(TWO))

    def test_without_evaluated_places_terms_are_asked_for(self):
        # lazy(take(end)) has take at a place that is not evaluated, and no rule fits it.
        rules = [(("lazy", ("end",)), ("end",)), (("take", "x"), "x")]
        entries = [("end", (), "p"), ("take", ("p",), "p"), ("lazy", ("p",), "p")]
        self.assertEqual(judge(lazy(entries, rules)).stuck, ("lazy", ("lazy", END)))
        rules.append((("lazy", ("lazy", "x")), "x"))
        self.assertEqual(judge(lazy(entries, rules)).stuck, ("lazy", ("take", END)))
        rules.append((("lazy", ("take", "x")), "x"))
        self.assertEqual(summary(judge(lazy(entries, rules))), (True, None, None, None, 8))

    def test_a_working_constant(self):
        symbols = [("go", 0, False, ()), ("end", 0, True, ())]
        for rules, wanted in (
            ([], (False, ("go",), None, ("go",), 1)),
            ([(("go",), ("go",))], (True, None, None, None, 2)),
            ([(("go",), ("end",))], (False, None, (("go",), 0, END, "p"), ("go",), 2)),
        ):
            self.assertEqual(summary(judge(lazy([("go", (), "p")], rules, symbols=symbols))), wanted)
        self.assertEqual(summary(judge(lazy([], [], symbols=symbols))), (True, None, None, None, 1))


class Lost(unittest.TestCase):
    def test_the_least_term_that_loses_a_kind(self):
        made = judge(language(RULES[:2] + [(("fst", ("pair", "x", "y")), ("pair", "y", "x"))]))
        term = fst(pair(ZERO, ZERO))
        self.assertEqual(summary(made), (False, None, (term, 2, pair(ZERO, ZERO), "num"), term, 24))

    def test_the_first_kind_lost(self):
        for under, lost in (((), "p"), ([("r", "p"), ("r", "q")], "p"), ([("r", "p")], "p")):
            made = lazy(
                [("end", (), "q"), ("take", ("q",), "r"), ("take", ("q",), "p")], [(("take", "x"), "x")],
                kinds=["q", "p", "r"], under=under)
            self.assertEqual(judge(made).lost, (("take", END), 0, END, lost))

    def test_kinds_that_are_kept_are_not_told(self):
        made = lazy([("end", (), "p"), ("take", ("p",), "p"), ("take", ("p",), "q")], [(("take", "x"), "x")])
        self.assertEqual(judge(made).lost, (("take", END), 0, END, "q"))

    def test_the_first_rule_by_which_one_is_lost(self):
        # All rules fit the same term; the first one keeps its kind.
        rules = [(("take", "x"), "x"), (("take", ("end",)), ("box", ("end",))), (("take", "x"), ("box", "x")),
                 (("take", ("end",)), ("take", ("box", ("end",))))]
        entries = [("end", (), "p"), ("take", ("p",), "p")]
        self.assertEqual(judge(lazy(entries, rules)).lost, (("take", END), 1, ("box", END), "p"))
        self.assertEqual(judge(lazy(entries, rules[2:] + rules[:2])).lost, (("take", END), 0, ("box", END), "p"))
        self.assertEqual(judge(lazy(entries, [rules[0], rules[3]])).lost[1:], (1, ("take", ("box", END)), "p"))

    def test_a_later_rule_may_lose_a_kind_at_a_smaller_term(self):
        rules = [(("take", ("box", "x")), "x"), (("take", ("end",)), ("box", ("end",)))]
        entries = [("end", (), "p"), ("box", ("p",), "q"), ("take", ("q",), "q"), ("take", ("p",), "p")]
        self.assertEqual(judge(lazy(entries, rules)).lost, (("take", END), 1, ("box", END), "p"))
        self.assertEqual(judge(lazy(entries, rules[:1])).lost, (("take", ("box", END)), 0, END, "q"))

    def test_a_variable_that_stands_for_a_value(self):
        # Only a term that is no value has the kind q, and only where no value is asked for it is passed on.
        rules = [(("take", "x"), "x"), (("lazy", "x"), ("end",))]
        entries = [("end", (), "p"), ("lazy", ("p",), "q"), ("take", ("p",), "p"), ("take", ("q",), "q")]
        made = judge(lazy(entries, rules))
        self.assertEqual(made.lost, (("lazy", END), 1, END, "q"))
        # take has one value row, two kinds of terms would give two cases.
        self.assertEqual(made.cases, 1 + 2 + 1 + 4)

    def test_variables_in_patterns(self):
        # The part of box is not evaluated, the box itself is.
        entries = [("end", (), "p"), ("lazy", ("p",), "q"), ("box", ("q",), "p"), ("take", ("p",), "p")]
        made = judge(lazy(entries, [(("take", ("box", "x")), "x"), (("take", ("end",)), END), (("lazy", "x"), ("lazy", "x"))]))
        self.assertEqual(made.lost, (("take", ("box", ("lazy", END))), 0, ("lazy", END), "p"))

    def test_variables_of_a_pattern_at_a_place_that_is_not_evaluated(self):
        # succ evaluates its part, but lazy does not evaluate the successor.
        symbols = [("end", 0, True, ()), ("succ", 1, True, (0,)), ("lazy", 1, False, ()), ("go", 0, False, ())]
        entries = [("end", (), "p"), ("go", (), "q"), ("succ", ("q",), "p"), ("lazy", ("p",), "p")]
        rules = [(("lazy", ("succ", "x")), "x"), (("go",), ("go",))]
        made = judge(lazy(entries, rules, symbols=symbols))
        self.assertEqual(made.lost, (("lazy", ("succ", ("go",))), 0, ("go",), "p"))
        self.assertEqual(made.cases, 2 + 1 + 4 + 1)
        strict = [symbol if symbol[0] != "lazy" else ("lazy", 1, False, (0,)) for symbol in symbols]
        made = judge(lazy(entries, rules, symbols=strict))
        self.assertEqual(made.lost, None)
        self.assertEqual(made.cases, 1 + 1 + 1 + 1)

    def test_a_loss_within_a_term_that_keeps_its_kinds(self):
        # take(end) loses p; the successor of it keeps its kind, as any part gives it.
        entries = [("end", (), "q"), ("take", ("q",), "p"), ("box", ("p",), "q"), ("box", ("q",), "q")]
        made = judge(lazy(entries, [(("take", "x"), "x")]))
        self.assertEqual(made.lost, (("take", END), 0, END, "p"))

    def test_right_sides_with_all_kinds_of_parts(self):
        symbols = [("end", 0, True, ()), ("tri", 3, True, (0, 1, 2)), ("turn", 3, False, (2, 0, 1))]
        entries = [("end", (), "p"), ("tri", ("p", "p", "q"), "p"), ("tri", ("p", "p", "p"), "q"),
                   ("turn", ("p", "q", "p"), "p")]
        whole = ("tri", END, END, END)
        rules = [(("turn", "x", ("tri", "a", "b", "c"), "y"), ("tri", "x", "y", ("tri", "c", "a", "b")))]
        made = lazy(entries, rules, symbols=symbols)
        self.assertEqual(summary(judge(made)), (True, None, None, None, 16 * 2 + 27))
        rules = [(rules[0][0], ("tri", ("tri", "c", "a", "b"), "x", "y"))]
        self.assertEqual(judge(lazy(entries, rules, symbols=symbols)).lost, (
            ("turn", END, whole, END), 0, ("tri", whole, END, END), "p"))


class LeastOfARule(unittest.TestCase):
    """Of the terms that one rule makes, the first one by the rows of its variables need not be the least."""

    SYMBOLS = [("end", 0, True, ()), ("box", 1, True, ()), ("pair", 2, True, ()), ("tri", 3, True, ()), ("two", 2, False, ())]
    BOX = ("box", END)

    def compare(self, entries, rule, least, after):
        made = lazy([("end", (), "p"), ("box", ("p",), "q")] + entries, [rule], kinds="pqr", symbols=self.SYMBOLS)
        self.assertEqual(judge(made).lost, (least, 0, after, "p"))
        self.assertEqual(uses(made)[1], ((0, least),))
        self.assertEqual(plain.lost(made, 7), (least, 0, after, "p"))

    def test_a_smaller_term(self):
        # two(end, tri(..)) has the lesser first part, but it is larger.
        entries = [("tri", ("q", "q", "q"), "r"), ("two", ("p", "r"), "p"), ("two", ("q", "q"), "p")]
        self.compare(entries, (("two", "x", "y"), ("box", "x")), ("two", self.BOX, self.BOX), ("box", self.BOX))

    def test_terms_of_equal_sizes(self):
        # Both have 7 symbols, and pair(box(end), end) is smaller than pair(end, box(box(end))).
        entries = [("box", ("q",), "r"), ("pair", ("p", "r"), "p"), ("pair", ("q", "p"), "q"),
                   ("two", ("p", "p"), "p"), ("two", ("q", "q"), "p")]
        self.compare(
            entries, (("two", ("pair", "x", "y"), "z"), ("box", "z")),
            ("two", ("pair", self.BOX, END), self.BOX), ("box", self.BOX))

    def test_the_lesser_first_part(self):
        entries = [("box", ("q",), "r"), ("two", ("q", "q"), "p"), ("two", ("p", "r"), "p")]
        self.compare(entries, (("two", "y", "x"), ("box", "x")), ("two", END, ("box", self.BOX)), ("box", ("box", self.BOX)))


class Witness(unittest.TestCase):
    def test_the_stuck_term_comes_first(self):
        made = judge(language([(("fst", ("pair", "x", "y")), ("pair", "y", "x"))]))
        self.assertEqual(made.stuck, add(ZERO, ZERO))
        self.assertEqual(made.lost[0], fst(pair(ZERO, ZERO)))
        self.assertEqual(made.witness, made.stuck)

    def test_the_term_that_loses_a_kind_comes_first(self):
        made = judge(language([(("add", "x", "y"), ("pair", "x", "y"))]))
        self.assertEqual(made.lost, (add(ZERO, ZERO), 0, pair(ZERO, ZERO), "num"))
        self.assertEqual(made.stuck, fst(pair(ZERO, ZERO)))
        self.assertEqual(made.witness, add(ZERO, ZERO))

    def test_of_equal_sizes(self):
        entries = [("end", (), "p"), ("lazy", ("p",), "p"), ("take", ("p",), "q")]
        made = judge(lazy(entries, [(("take", "x"), "x")]))
        self.assertEqual((made.stuck, made.lost[0], made.witness), (("lazy", END), ("take", END), ("lazy", END)))
        made = judge(lazy(entries[:1] + [("take", ("p",), "p"), ("lazy", ("p",), "q")], [(("lazy", "x"), "x")]))
        self.assertEqual((made.stuck, made.lost[0], made.witness), (("take", END), ("lazy", END), ("lazy", END)))


class Cases(unittest.TestCase):
    def test_a_rule_that_never_fits_has_no_cases(self):
        never = (("add", ("fst", "x"), "y"), ("pair", "x", "y"))
        self.assertEqual(language([never]).steps(add(fst(ZERO), ZERO)), [])
        self.assertEqual(summary(judge(language(RULES + [never]))), (True, None, None, None, 24))
        made = judge(language([never]))
        self.assertEqual((made.stuck, made.lost, made.cases), (add(ZERO, ZERO), None, 12))

    def test_it_fits_where_the_place_is_not_evaluated(self):
        entries = [("end", (), "p"), ("take", ("p",), "p"), ("lazy", ("p",), "p")]
        rules = [(("lazy", ("take", "x")), ("box", "x")), (("take", "x"), "x")]
        made = judge(lazy(entries, rules))
        self.assertEqual(made.lost, (("lazy", ("take", END)), 0, ("box", END), "p"))
        self.assertEqual(made.cases, 1 + 1 + 3 + 1)

    def test_rows_with_equal_kinds_give_one_keeping_case(self):
        entries = [("end", (), "p"), ("box", ("p",), "p"), ("box", ("q",), "q")]
        self.assertEqual(judge(lazy(entries, [(("take", "x"), "x")])).cases, 1 + 2 + 2)

    def test_rules_without_variables_and_repeated_rules(self):
        rule = (("take", ("end",)), ("end",))
        for rules, many in (([rule], 1), ([rule] * 3, 3), ([rule, (("take", ("box", "x")), ("end",))], 1)):
            self.assertEqual(judge(lazy([], rules)).cases, many)

    def test_without_terms(self):
        made = judge(language(entries=[]))
        self.assertEqual(summary(made), (True, None, None, None, 0))
        made = judge(lazy([("box", ("p",), "p"), ("take", ("p",), "p")], [], symbols=LAZY[1:]))
        self.assertEqual(summary(made), (True, None, None, None, 0))

    def test_all_cases_are_counted_after_one_that_fails(self):
        for rules in (RULES, RULES[::-1], [(("add", "x", "y"), ("pair", "x", "y"))] * 2):
            made = language(rules)
            self.assertEqual(judge(made).cases, len(plain.cases(made, Table(made))))

    def test_a_full_book(self):
        symbols = [("end", 0, True, ()), ("tri", 3, False, (2, 1)), ("two", 2, True, ())]
        every = plain.every_entry(Book(Signature(symbols), "ab"), symbols)
        self.assertGreater(len(every), 24)
        made = lazy(every[:24], [(("tri", "x", ("two", "y", "z"), "w"), ("two", "w", "y"))], kinds="ab", symbols=symbols)
        self.assertEqual(len(made.book.entries), 24)
        verdict = judge(made)
        cases = plain.cases(made, Table(made))
        self.assertEqual((verdict.cases, verdict.sound), (len(cases), all(cases.values())))
        self.assertEqual((verdict.stuck, verdict.lost), (plain.stuck(made, 5), plain.lost(made, 5)))


class AgainstAWalk(unittest.TestCase):
    def compare(self, made, size):
        found = judge(made)
        measure = made.signature.size
        cases = plain.cases(made, Table(made))
        self.assertEqual(found.cases, len(cases))
        self.assertIs(found.sound, all(cases.values()))
        self.assertEqual(found.stuck is None, all(cases[case] for case in cases if case[0] == "moving"))
        self.assertEqual(found.lost is None, all(cases[case] for case in cases if case[0] == "keeping"))
        lost = None if found.lost is None else found.lost[0]
        stuck, loses = plain.stuck(made, size), plain.lost(made, size)
        self.assertEqual(found.stuck if found.stuck is None or measure(found.stuck) <= size else None, stuck)
        self.assertEqual(found.lost if lost is None or measure(lost) <= size else None, loses)
        self.assertEqual(found.witness, plain.first([found.stuck, lost], made.signature))
        return (found.stuck is None, lost is None)

    def test_many_languages(self):
        found = set()
        for seed in range(250):
            with self.subTest(seed):
                found.add(self.compare(plain.chance_language(seed), 4))
        self.assertEqual(len(found), 4)

    def test_other_rules_for_the_sample(self):
        rights = ["x", "y", ("succ", "x"), ("pair", "y", "x"), ("fst", "x"), ("zero",)]
        for first, second in itertools.product(rights, repeat=2):
            rules = RULES[:1] + [(("add", ("succ", "x"), "y"), first), (("fst", ("pair", "x", "y")), second)]
            with self.subTest(rules):
                self.compare(language(rules), 4)


class Uses(unittest.TestCase):
    def test_the_sample(self):
        entries, rules, names = uses(language())
        self.assertEqual(entries, (
            (("zero", (), "nat"), ZERO), (("succ", ("nat",), "nat"), ONE), (("succ", ("num",), "num"), ONE),
            (("pair", ("num", "num"), "both"), pair(ZERO, ZERO)), (("add", ("num", "num"), "num"), add(ZERO, ZERO)),
            (("fst", ("both",), "num"), fst(pair(ZERO, ZERO)))))
        self.assertEqual(rules, ((0, add(ZERO, ZERO)), (1, add(ONE, ZERO)), (2, fst(pair(ZERO, ZERO)))))
        self.assertEqual(names, (
            ("zero", ZERO), ("succ", ONE), ("pair", pair(ZERO, ZERO)), ("add", add(ZERO, ZERO)), ("fst", fst(pair(ZERO, ZERO)))))

    def test_what_is_not_used(self):
        rules = [(("fst", ("succ", "x")), "x"), (("add", ("fst", "x"), "y"), "y"), (("add", ("zero",), ("zero",)), ("zero",))]
        made = language(rules, [("zero", (), "nat"), ("add", ("num", "both"), "num"), ("add", ("num", "num"), "num")])
        self.assertEqual(uses(made), (
            ((("zero", (), "nat"), ZERO), (("add", ("num", "num"), "num"), add(ZERO, ZERO)), (("add", ("num", "both"), "num"), None)),
            ((0, None), (1, None), (2, add(ZERO, ZERO))),
            (("zero", ZERO), ("succ", None), ("pair", None), ("add", add(ZERO, ZERO)), ("fst", None))))

    def test_a_rule_is_used_only_by_a_term_with_a_kind_at_its_own_active_place(self):
        rules = [(("take", ("end",)), ("end",)), (("take", ("box", "x")), "x"), (("take", "x"), "x")]
        made = lazy([("end", (), "p"), ("lazy", ("p",), "q"), ("box", ("q",), "q"), ("take", ("q",), "p")], rules)
        least = ("take", ("box", ("lazy", END)))
        self.assertEqual(uses(made)[1], ((0, None), (1, least), (2, least)))
        # take(lazy(end)) comes first, but its active place is the part.
        self.assertEqual(uses(made)[2][3], ("take", ("take", ("lazy", END))))

    def test_parts_of_an_entry_are_any_terms(self):
        made = lazy([("end", (), "p"), ("lazy", ("p",), "q"), ("take", ("q",), "p")], [])
        self.assertEqual(uses(made)[0][2], (("take", ("q",), "p"), ("take", ("lazy", END))))

    def test_without_entries_and_rules(self):
        self.assertEqual(uses(lazy([], [])), ((), (), (("end", None), ("box", None), ("lazy", None), ("take", None))))

    def test_against_a_walk(self):
        for seed in range(150):
            made = plain.chance_language(seed)
            for found, wanted in zip(uses(made), plain.used(made, 4)):
                shown = [(one, None if term is None or made.signature.size(term) > 4 else term) for one, term in found]
                self.assertEqual(tuple(shown), wanted, seed)


class Ambiguous(unittest.TestCase):
    def test_none(self):
        self.assertIsNone(ambiguous(language()))
        self.assertIsNone(ambiguous(language(entries=[])))

    def test_the_least_term_without_a_least_kind(self):
        made = language(entries=ENTRIES + [("succ", ("num",), "both")])
        self.assertEqual(ambiguous(made), ONE)
        self.assertIsNone(made.book.least_kind(ONE))
        self.assertEqual(ambiguous(language(entries=ENTRIES + [("add", ("num", "num"), "both")])), add(ZERO, ZERO))
        self.assertEqual(ambiguous(language(entries=ENTRIES + [("zero", (), "both")])), ZERO)

    def test_a_least_kind_must_be_one_of_the_kinds(self):
        symbols = LAZY[:2]
        entries = [("end", (), "p"), ("box", ("p",), "q"), ("box", ("p",), "r")]
        for under, wanted in (
            ((), ("box", END)), ([("p", "q"), ("p", "r")], ("box", END)), ([("q", "r")], None), ([("r", "q")], None),
            ([("q", "p"), ("r", "p")], ("box", END)), ([("r", "p"), ("p", "q")], None),
        ):
            self.assertEqual(ambiguous(lazy(entries, [], kinds="pqr", symbols=symbols, under=under)), wanted)

    def test_against_a_walk(self):
        for seed in range(150):
            made = plain.chance_language(seed)
            found = ambiguous(made)
            small = found is None or made.signature.size(found) <= 4
            self.assertEqual(found if small else None, plain.ambiguous(made, 4), seed)


class NothingChanges(unittest.TestCase):
    def test_what_is_passed_is_not_modified(self):
        made = language(RULES[1:], ENTRIES + [("succ", ("num",), "both")])
        wanted = (made.book.entries, made.book.kinds, made.book.under, made.rules, made.signature.symbols)
        first = (summary(judge(made)), uses(made), ambiguous(made))
        self.assertEqual((made.book.entries, made.book.kinds, made.book.under, made.rules, made.signature.symbols), wanted)
        self.assertEqual((summary(judge(made)), uses(made), ambiguous(made)), first)
        self.assertEqual(made.signature.symbols, tuple(SYMBOLS))

    def test_lists_that_were_passed_may_be_changed_afterwards(self):
        rules, entries = list(RULES), list(ENTRIES)
        passed = Book(Signature(SYMBOLS), ["nat", "num", "both"], under=[("nat", "num")], entries=entries)
        made = Language(passed, rules)
        rules.clear()
        entries.clear()
        passed["zero", ()] = ["both"]
        verdict = judge(made)
        self.assertEqual(summary(verdict), (True, None, None, None, 24))
        self.assertEqual(uses(made)[2][1], ("succ", succ(ZERO)))


if __name__ == "__main__":
    unittest.main()
