"""Points 1 and 2 over the whole program: nothing passed is modified, tuples for lists, the bounds."""
import itertools
import random
import time
import unittest

from keptkinds.books import Book
from keptkinds.languages import Language
from keptkinds.layers import judge_on_top
from keptkinds.mending import all_changes, changed, harmless, repairs
from keptkinds.tables import Table
from keptkinds.terms import Signature, terms
from keptkinds.verdicts import ambiguous, judge, uses
from tests import plain
from tests.samples import ENTRIES, KINDS, RULES, SYMBOLS, UNDER, ZERO

# Far more than any answer takes, so that a slow machine does not fail.
SECONDS = 20


def answers(language):
    """What the program tells of a language, one after the other."""
    table = Table(language)
    verdict = judge(language)
    told = [table.term_rows, table.value_rows, [table.first_symbols(kind) for kind in language.book.kinds]]
    told += [verdict.sound, verdict.stuck, verdict.lost, verdict.witness, verdict.cases]
    told += [uses(language), ambiguous(language), all_changes(language)]
    told += [repairs(language, all_changes(language)[1:4]), [harmless(language, one[0]) for one in language.signature.symbols]]
    told.append(changed(language, *all_changes(language)[1:3]).book.entries)
    if verdict.sound:
        told.append(judge_on_top(language, language).cases)
    return told


def state(language):
    book = language.book
    return (language.signature.symbols, book.kinds, book.under, book.entries, language.rules)


def full_language(chance, lazy):
    """6 symbols, 3 kinds, 24 entries, 6 rules with 4 variables and with right sides of up to 9."""
    places = [0, 0, 1, 2, 3, 3]
    symbols = [
        (name, many, at < 4, () if lazy else tuple(range(many))[::-1])
        for at, (name, many) in enumerate(zip("abcdef", places))]
    kinds = ["p", "q", "r"]
    every = plain.every_entry(Book(Signature(symbols), kinds), symbols)
    # A book that gives many sets of kinds.
    entries = {("a", (), "p"), ("b", (), "q"), ("b", (), "r"), ("c", ("p",), "q"), ("c", ("q",), "r"), ("c", ("r",), "p")}
    while len(entries) < 24:
        entries.add(chance.choice(every))
    book = Book(Signature(symbols), kinds, entries=list(entries))
    rights = ["v", ("e", "v", "w", ("d", "x", ("c", ("c", "y"))))]
    lefts = [(name, "v", ("d", "w", "x"), "y") for name in "ef"] + [("e", "v", ("c", "w"), ("d", "x", "y"))]
    return Language(book, [(left, right) for left, right in itertools.product(lefts, rights)])


class Bounds(unittest.TestCase):
    def assert_quick(self, call):
        before = time.process_time()
        found = call()
        self.assertLess(time.process_time() - before, SECONDS)
        return found

    def test_full_languages(self):
        for seed in range(4):
            made = full_language(random.Random(seed), seed % 2 == 0)
            self.assertEqual((len(made.signature.symbols), len(made.book.entries), len(made.rules)), (6, 24, 6))
            verdict = self.assert_quick(lambda: judge(made))
            table = Table(made)
            self.assertGreater(len(table.term_rows), 8)
            cases = plain.keeping(made, table)
            self.assertEqual(verdict.lost is None, all(cases.values()))
            self.assertGreaterEqual(verdict.cases, len(cases))
            self.assert_quick(lambda: uses(made))
            self.assert_quick(lambda: harmless(made, "e"))
            candidates = random.Random(seed).sample(all_changes(made), 8)
            self.assert_quick(lambda: repairs(made, candidates, most=3))

    def test_somewhat_beyond_the_bounds(self):
        symbols = SYMBOLS + [("nil", 0, True, ()), ("cons", 2, True, ()), ("tail", 1, False, (0,))]
        kinds = KINDS + ["list", "any"]
        entries = ENTRIES + [("nil", (), "list"), ("cons", ("any", "any"), "list"), ("tail", ("list",), "list")]
        under = UNDER + [(kind, "any") for kind in KINDS + ["list"]]
        rules = RULES * 2 + [(("tail", ("cons", "x", "y")), "y"), (("tail", ("nil",)), ("nil",))]
        made = Language(Book(Signature(symbols), kinds, under=under, entries=entries), rules)
        self.assertEqual(judge(made).lost, (("tail", ("cons", ZERO, ZERO)), 6, ZERO, "list"))
        mended = [changes[0][1][0] for changes, _ in repairs(made, all_changes(made)[:10], most=1)]
        self.assertEqual(mended, ["zero", "cons", "tail"])
        self.assertEqual(repairs(made, [("rule", at) for at in range(6)], most=4), [])


class Copies(unittest.TestCase):
    def test_what_is_passed_is_not_modified(self):
        for seed in range(40):
            made = plain.chance_language(seed)
            before = state(made)
            first = answers(made)
            self.assertEqual(state(made), before)
            self.assertEqual(answers(made), first)

    def test_a_tuple_may_stand_where_a_list_is_passed(self):
        lists = Language(Book(Signature(list(SYMBOLS)), list(KINDS), under=list(UNDER), entries=list(ENTRIES)), list(RULES))
        rows = Language(Book(Signature(tuple(SYMBOLS)), tuple(KINDS), under=tuple(UNDER), entries=tuple(ENTRIES)), tuple(RULES))
        self.assertEqual(answers(lists), answers(rows))
        self.assertEqual(
            repairs(lists, list(all_changes(lists)[:3])), repairs(rows, all_changes(rows)[:3]))

    def test_lists_that_were_passed_may_be_changed_afterwards(self):
        passed = [list(SYMBOLS), list(KINDS), list(UNDER), list(ENTRIES), list(RULES)]
        symbols, kinds, under, entries, rules = passed
        made = Language(Book(Signature(symbols), kinds, under=under, entries=entries), rules)
        first = answers(made)
        for one in passed:
            one.clear()
        self.assertEqual(answers(made), first)

    def test_a_book_that_was_passed_or_returned_may_be_changed_afterwards(self):
        book = Book(Signature(SYMBOLS), KINDS, under=UNDER, entries=ENTRIES)
        made = Language(book, RULES)
        first = answers(made)
        returned = made.book
        book["zero", ()] = []
        returned["zero", ()] = ["both"]
        changed(made).book["zero", ()] = []
        self.assertEqual(answers(made), first)

    def test_lists_that_are_returned_are_new(self):
        made = Language(Book(Signature(SYMBOLS), KINDS, under=UNDER, entries=ENTRIES), RULES[1:])
        candidates = all_changes(made)
        found = repairs(made, candidates)
        wanted = list(found)
        found.clear()
        self.assertEqual(repairs(made, candidates), wanted)


class LeastTerms(unittest.TestCase):
    def test_all_that_is_told_as_least_comes_first_of_its_size(self):
        for seed in range(40):
            made = plain.chance_language(seed)
            listed = [term for size in range(1, 5) for term in terms(made.signature, size)]
            at = {term: place for place, term in enumerate(listed)}
            for name, kinds, term in Table(made).term_rows:
                if term in at:
                    alike = [one for one in listed if one[0] == name and made.book.kinds_of(one) == kinds]
                    self.assertEqual(alike[0], term)


if __name__ == "__main__":
    unittest.main()
